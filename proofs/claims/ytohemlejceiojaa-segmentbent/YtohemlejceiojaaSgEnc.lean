/- The walk of a segment as bytes. -/
import Derived.Test.YtohemlejceiojaaSgHead
import Derived.Test.YtohemlejceiojaaSgRight
namespace Go.Proofs.Ytohemlejceiojaa
open Go.RowKit
set_option linter.unusedVariables false

set_option maxHeartbeats 8000000 in
theorem senc6 (src dst sp dp sq ak fl wi : Nat) (d : ByteArray) (w : World) (hsrc : src < 4294967296) (hdst : dst < 4294967296) (hsq : sq < 4294967296) (hak : ak < 4294967296) (hr : S.right 6 sp dp sq ak fl wi d.size = true) :
    Calls Try.prog 6 #[.int .i64 6, .int .u32 src, .int .u32 dst, sg sp dp sq ak fl wi d] w fun e w' =>
      e = .returned (.tuple #[.string (ba (S.put (S.head6 sp dp sq ak fl wi) 16 (S.cks 6 src dst (S.head6 sp dp sq ak fl wi) d) d)), .int .i64 0]) ∧ Below w.heap.size w w' := by
  have hr' : S.Right 6 sp dp sq ak fl wi d.size := of_decide_eq_true hr
  have hb : sp ≤ 65535 ∧ dp ≤ 65535 ∧ fl ≤ 63 ∧ wi ≤ 65535 ∧ d.size ≤ 65495 := by
    unfold S.Right S.fits at hr'; omega
  obtain ⟨i1, i2, i3, i4, i5⟩ := hb
  have HR := Lib.hid (fun w' => sright_any 6 sp dp sq ak fl wi d w' (by omega) true hr.symm)
  have HH := Lib.hid (fun w' => head_tcp sp dp sq ak fl wi d w' i1 i2 hsq hak i3 i4)
  have hcl := cks_le 6 src dst (S.head6 sp dp sq ak fl wi) d
  have HK := Lib.hid (fun w' => checkSum_any 6 src dst (S.head6 sp dp sq ak fl wi) d w' hsrc hdst (by rw [S.head6_length]; omega) (by omega) _ rfl)
  have hAs : (ba (S.head6 sp dp sq ak fl wi)).size = 20 := rfl
  have hj : IntKind.i64.wrap 18 = 18 := by decide
  have Hout : Hid (S.put (S.head6 sp dp sq ak fl wi) 16 (S.cks 6 src dst (S.head6 sp dp sq ak fl wi) d) d = (S.head6 sp dp sq ak fl wi).take 16 ++ be2 (S.cks 6 src dst (S.head6 sp dp sq ak fl wi) d) ++ ((S.head6 sp dp sq ak fl wi).drop 18 ++ d.data.toList)) := Lib.hid rfl
  have hx1 : (ba (S.head6 sp dp sq ak fl wi)).extract 0 16 = ba ((S.head6 sp dp sq ak fl wi).take 16) := ba_take _ _
  have hx2 : (ba (S.head6 sp dp sq ak fl wi)).extract 18 20 = ba ((S.head6 sp dp sq ak fl wi).drop 18) := ba_drop _ _
  have z1 : (ba ((S.head6 sp dp sq ak fl wi).take 16)).size = 16 := rfl

  have z2 : (ba ((S.head6 sp dp sq ak fl wi).drop 18)).size = 2 := rfl
  have Ht : Hid ((S.head6 sp dp sq ak fl wi).take 16 = (ba ((S.head6 sp dp sq ak fl wi).take 16)).data.toList) := Lib.hid (ba_list _).symm
  have Hd : Hid ((S.head6 sp dp sq ak fl wi).drop 18 = (ba ((S.head6 sp dp sq ak fl wi).drop 18)).data.toList) := Lib.hid (ba_list _).symm
  rw [Ht.out, Hd.out] at Hout
  rw [Hout.out]
  clear Hout Ht Hd hr hr'
  generalize ba ((S.head6 sp dp sq ak fl wi).take 16) = A1 at *
  generalize ba ((S.head6 sp dp sq ak fl wi).drop 18) = A2 at *
  generalize S.cks 6 src dst (S.head6 sp dp sq ak fl wi) d = c at *
  generalize ba (S.head6 sp dp sq ak fl wi) = A at *
  have Hc : Hid (∀ w' : World, w'.heap[w.heap.size]? = some (.cells #[.int .i64 (sp : Nat), .int .i64 (dp : Nat), .int .u32 (sq : Nat), .int .u32 (ak : Nat), .int .i64 (fl : Nat), .int .i64 (wi : Nat), .string d] 24 (0, 0)) → w'.cell? ⟨w.heap.size, 0, none⟩ = some (.int .i64 (sp : Nat)) ∧ w'.cell? ⟨w.heap.size, 1, none⟩ = some (.int .i64 (dp : Nat)) ∧ w'.cell? ⟨w.heap.size, 2, none⟩ = some (.int .u32 (sq : Nat)) ∧ w'.cell? ⟨w.heap.size, 3, none⟩ = some (.int .u32 (ak : Nat)) ∧ w'.cell? ⟨w.heap.size, 4, none⟩ = some (.int .i64 (fl : Nat)) ∧ w'.cell? ⟨w.heap.size, 5, none⟩ = some (.int .i64 (wi : Nat)) ∧ w'.cell? ⟨w.heap.size, 6, none⟩ = some (.string d)) :=
    Lib.hid fun w' hw' => by simp [World.cell?, hw']
  have hpk0 : (w.alloc (sgO sp dp sq ak fl wi d)).heap[w.heap.size]? = some (sgO sp dp sq ak fl wi d) := heap_alloc_new w _
  have hb0 : Below w.heap.size w (w.alloc (sgO sp dp sq ak fl wi d)) := (Below.refl _ w).alloc (Nat.le_refl _) _
  go_enter Try.func6, Try.ntmps6
  go_wp2_with fail
  refine (HR.out _).mono ?_
  rintro e w1 ⟨rfl, hb1⟩
  have hb1w := hb0.trans (hb1.mono hb0.size)
  have hpk1 := (hb1.block w.heap.size (lt_of_block hpk0)).trans hpk0
  obtain ⟨k0, k1, k2, k3, k4, k5, k6⟩ := Hc.out _ hpk1
  clear HR hb0 hb1 hpk0
  go_wp2_with fail
  refine (HH.out _).mono ?_
  rintro e w2 ⟨rfl, hb2⟩
  have hb2w := hb1w.trans (hb2.mono hb1w.size)
  have hpk2 := (hb2.block w.heap.size (lt_of_block hpk1)).trans hpk1
  clear HH hb1w hb2 hpk1 k0 k1 k2 k3 k4 k5 k6
  go_upto_region 5 with fail
  have hwr3 : Wr w.heap.size w2.heap.size [] (w2.alloc (.cells #[.bool false, .slice none 0 0] 43)) := ⟨hb2w.size, none, 0, heap_alloc_new w2 _, World.ownsRow_nil _ _ _ _⟩
  have hpk3 : (w2.alloc (.cells #[.bool false, .slice none 0 0] 43)).heap[w.heap.size]? = some (sgO sp dp sq ak fl wi d) := (Below.heap_alloc w2 _ _ (lt_of_block hpk2)).trans hpk2
  have hb3w : Below w.heap.size w (w2.alloc (.cells #[.bool false, .slice none 0 0] 43)) := hb2w.alloc hb2w.size _
  have hNb : w.heap.size ≠ w2.heap.size := by have := lt_of_block hpk2; omega
  generalize (w2.alloc (.cells #[.bool false, .slice none 0 0] 43)) = w3 at *
  generalize w2.heap.size = b at *
  clear hb2w hpk2
  generalize hN : w.heap.size = N at *
  have hbase : N ≤ w.heap.size := by rw [hN]; exact Nat.le_refl _
  have HL1 : Hid ((txts [A1]).length = 16) := Lib.hid (by rw [txts_one, z1])
  have HL2 : Hid ((txts [A2, d]).length = 2 + d.size) := Lib.hid (by rw [txts_two, z2])
  have hrows : rowsB [.val (.pointer (some ⟨b, 0, none⟩)), .val (.string A), .val (.int .i64 16), .val (.string A1), .row #[.string A1] 9, .val (.pointer (some ⟨b, 0, none⟩)), .val (.int .i64 6), .val (.int .u32 (src : Nat)), .val (.int .u32 (dst : Nat)), .val (.string A), .val (.pointer (some ⟨N, 6, none⟩)), .val (.string d), .val (.int .i64 (c : Nat)), .row #[.int .i64 (c : Nat)] 3, .val (.pointer (some ⟨b, 0, none⟩)), .val (.string A), .val (.int .i64 16), .val (.int .i64 18), .val (.string A2), .val (.pointer (some ⟨N, 6, none⟩)), .val (.string d), .row #[.string A2, .string d] 9, .val (.pointer (some ⟨b, 0, none⟩))] = true := by kernel_rfl
  have hsum : ([] : List UInt8).length + (([(5, txts [A1]), (14, [c].flatMap be2), (22, txts [A2, d])] : List (Nat × List UInt8)).map fun c => c.2.length).sum ≤ 65535 := by simp only [List.map_cons, List.map_nil, List.sum_cons, List.sum_nil, HL1.out, HL2.out, List.length_nil]; have : ([c].flatMap be2).length = 2 := rfl; omega
  refine region_plan' (VS b [.val (.pointer (some ⟨b, 0, none⟩)), .val (.string A), .val (.int .i64 16), .val (.string A1), .row #[.string A1] 9, .val (.pointer (some ⟨b, 0, none⟩)), .val (.int .i64 6), .val (.int .u32 (src : Nat)), .val (.int .u32 (dst : Nat)), .val (.string A), .val (.pointer (some ⟨N, 6, none⟩)), .val (.string d), .val (.int .i64 (c : Nat)), .row #[.int .i64 (c : Nat)] 3, .val (.pointer (some ⟨b, 0, none⟩)), .val (.string A), .val (.int .i64 16), .val (.int .i64 18), .val (.string A2), .val (.pointer (some ⟨N, 6, none⟩)), .val (.string d), .row #[.string A2, .string d] 9, .val (.pointer (some ⟨b, 0, none⟩))]) (ChS N w N #[.int .i64 (sp : Nat), .int .i64 (dp : Nat), .int .u32 (sq : Nat), .int .u32 (ak : Nat), .int .i64 (fl : Nat), .int .i64 (wi : Nat), .string d] 24 b [] [(5, txts [A1]), (14, [c].flatMap be2), (22, txts [A2, d])]) (by kernel_rfl) (by kernel_rfl) ⟨hb3w.drew, hpk3, by rw [said_zero]; exact ⟨hwr3.low, hwr3.cells⟩⟩ ⟨?_, ?_, ?_, ?_, ?_, ?_, ?_, ?_, ?_, ?_, ?_, ?_, ?_, ?_, ?_, ?_, ?_, ?_, ?_, ?_, ?_, ?_, ?_, trivial⟩ ?_
  · intro listed a' w' hs hS hun hdep
    have e12 : a'.eval (.tmp 12) = .pointer (some ⟨b, 0, none⟩) := (hs.was' 12 (by kernel_rfl)).trans (rfl)
    have hcn := BigFrame.eval_const a'
    have hfn := BigFrame.eval_func a'
    generalize a'.eval = ev at *
    exact plan_val (.pointer (some ⟨b, 0, none⟩)) w' (by go_simp) ⟨rfl, hS.calm 0 (by kernel_rfl), fun _ _ h => h⟩
  · intro listed a' w' hs hS hun hdep
    have e10 : a'.eval (.tmp 10) = .string A := (hs.was' 10 (by kernel_rfl)).trans (rfl)
    have hcn := BigFrame.eval_const a'
    have hfn := BigFrame.eval_func a'
    generalize a'.eval = ev at *
    exact plan_val (.string A) w' (by go_simp) ⟨rfl, hS.calm 1 (by kernel_rfl), fun _ _ h => h⟩
  · intro listed a' w' hs hS hun hdep
    have e11 : a'.eval (.tmp 11) = .int .i64 16 := (hs.was' 11 (by kernel_rfl)).trans (rfl)
    have hcn := BigFrame.eval_const a'
    have hfn := BigFrame.eval_func a'
    generalize a'.eval = ev at *
    exact plan_val (.int .i64 16) w' (by go_simp) ⟨rfl, hS.calm 2 (by kernel_rfl), fun _ _ h => h⟩
  · intro listed a' w' hs hS hun hdep
    have e26 : a'.eval (.tmp 26) = .string A := hs.eval 1 _ 26 rfl (hdep ⟨1, .data⟩ (by simp) rfl) rfl
    have e27 : a'.eval (.tmp 27) = .int .i64 16 := hs.eval 2 _ 27 rfl (hdep ⟨2, .data⟩ (by simp) rfl) rfl
    have hcn := BigFrame.eval_const a'
    have hfn := BigFrame.eval_func a'
    generalize a'.eval = ev at *
    exact plan_val (.string A1) w' (by go_simp) ⟨rfl, hS.calm 3 (by kernel_rfl), fun _ _ h => h⟩
  · intro listed a' w' hs hS hun hdep
    have e28 : a'.eval (.tmp 28) = .string A1 := hs.eval 3 _ 28 rfl (hdep ⟨3, .data⟩ (by simp) rfl) rfl
    have hcn := BigFrame.eval_const a'
    have hfn := BigFrame.eval_func a'
    generalize a'.eval = ev at *
    have hlt := hS.lt
    exact plan_val (.slice (some ⟨w'.heap.size, 0, none⟩) 1 1) (w'.alloc (.cells #[.string A1] 9)) (by go_simp) ⟨⟨w'.heap.size, by omega, rfl, heap_alloc_new w' _⟩, hS.below hbase ((Below.refl _ w').alloc (Nat.le_refl _) _) 4 (by kernel_rfl), VS.keep hrows (Spare.alloc b w' _)⟩
  · intro listed a' w' hs hS hun hdep
    have e25 : a'.eval (.tmp 25) = .pointer (some ⟨b, 0, none⟩) := hs.eval 0 _ 25 rfl (hdep ⟨0, .data⟩ (by simp) rfl) rfl
    have r29 : (Spec.row #[.string A1] 9).ok b (a'.eval (.tmp 29)) w' := hs.eval 4 _ 29 rfl (hdep ⟨4, .data⟩ (by simp) rfl) rfl
    generalize hg29 : a'.eval (.tmp 29) = g29 at r29
    have hcn := BigFrame.eval_const a'
    have hfn := BigFrame.eval_func a'
    generalize a'.eval = ev at *
    refine plan_call 12 #[.pointer (some ⟨b, 0, none⟩), g29] w' (by go_simp) ?_
    have n14 := hs.later 5 14 hun _ rfl .data (by simp) rfl
    have n22 := hs.later 14 22 n14 _ rfl .data (by simp) rfl
    have hsd : said [] [(5, txts [A1]), (14, [c].flatMap be2), (22, txts [A2, d])] (listed.setIfInBounds 5 true) = said [] [(5, txts [A1]), (14, [c].flatMap be2), (22, txts [A2, d])] listed ++ (txts [A1]) := said_call [] [] [(14, [c].flatMap be2), (22, txts [A2, d])] 5 (txts [A1]) listed (by have := hs.size; simp at this; omega) hun (by kernel_rfl) (by kernel_rfl) (fun c hc => by simp only [List.mem_cons, List.not_mem_nil, or_false] at hc; rcases hc with rfl | rfl <;> first | exact getD_both n14 | exact getD_both n22)
    have hle : (said [] [(5, txts [A1]), (14, [c].flatMap be2), (22, txts [A2, d])] listed).length + 16 ≤ 65535 := by have h1 := Nat.le_trans (said_le [] [(5, txts [A1]), (14, [c].flatMap be2), (22, txts [A2, d])] (listed.setIfInBounds 5 true)) hsum; rw [hsd, List.length_append] at h1; have h2 : (txts [A1]).length = 16 := HL1.out; omega
    refine (texts_row N b _ [A1] _ g29 #[.string A1] w' hS.wr (by omega) (by simp) (by intro s hs; rw [List.mem_singleton.1 hs]; omega) rfl r29 (putsT_all [A1] _ (by simp only [List.map_cons, List.map_nil, List.sum_cons, List.sum_nil]; omega))).mono ?_
    rintro e w'' ⟨rfl, hw, hk⟩
    exact ⟨_, rfl, rfl, hS.call hNb (by decide) hk 5 (by rw [hsd]; exact hw), VS.keep hrows hk.spare⟩
  · intro listed a' w' hs hS hun hdep
    have e0 : a'.eval (.tmp 0) = .int .i64 6 := (hs.was' 0 (by kernel_rfl)).trans (rfl)
    have hcn := BigFrame.eval_const a'
    have hfn := BigFrame.eval_func a'
    generalize a'.eval = ev at *
    exact plan_val (.int .i64 6) w' (by go_simp) ⟨rfl, hS.calm 6 (by kernel_rfl), fun _ _ h => h⟩
  · intro listed a' w' hs hS hun hdep
    have e1 : a'.eval (.tmp 1) = .int .u32 (src : Nat) := (hs.was' 1 (by kernel_rfl)).trans (rfl)
    have hcn := BigFrame.eval_const a'
    have hfn := BigFrame.eval_func a'
    generalize a'.eval = ev at *
    exact plan_val (.int .u32 (src : Nat)) w' (by go_simp) ⟨rfl, hS.calm 7 (by kernel_rfl), fun _ _ h => h⟩
  · intro listed a' w' hs hS hun hdep
    have e2 : a'.eval (.tmp 2) = .int .u32 (dst : Nat) := (hs.was' 2 (by kernel_rfl)).trans (rfl)
    have hcn := BigFrame.eval_const a'
    have hfn := BigFrame.eval_func a'
    generalize a'.eval = ev at *
    exact plan_val (.int .u32 (dst : Nat)) w' (by go_simp) ⟨rfl, hS.calm 8 (by kernel_rfl), fun _ _ h => h⟩
  · intro listed a' w' hs hS hun hdep
    have e10 : a'.eval (.tmp 10) = .string A := (hs.was' 10 (by kernel_rfl)).trans (rfl)
    have hcn := BigFrame.eval_const a'
    have hfn := BigFrame.eval_func a'
    generalize a'.eval = ev at *
    exact plan_val (.string A) w' (by go_simp) ⟨rfl, hS.calm 9 (by kernel_rfl), fun _ _ h => h⟩
  · intro listed a' w' hs hS hun hdep
    have e7 : a'.eval (.tmp 7) = .pointer (some ⟨N, 0, none⟩) := (hs.was' 7 (by kernel_rfl)).trans (rfl)
    have hcn := BigFrame.eval_const a'
    have hfn := BigFrame.eval_func a'
    generalize a'.eval = ev at *
    exact plan_val (.pointer (some ⟨N, 6, none⟩)) w' (by go_simp) ⟨rfl, hS.calm 10 (by kernel_rfl), fun _ _ h => h⟩
  · intro listed a' w' hs hS hun hdep
    have e35 : a'.eval (.tmp 35) = .pointer (some ⟨N, 6, none⟩) := hs.eval 10 _ 35 rfl (hdep ⟨10, .data⟩ (by simp) rfl) rfl
    have hcn := BigFrame.eval_const a'
    have hfn := BigFrame.eval_func a'
    generalize a'.eval = ev at *
    obtain ⟨k0, k1, k2, k3, k4, k5, k6⟩ := Hc.out _ hS.pk
    exact plan_val (.string d) w' (by go_simp) ⟨rfl, hS.calm 11 (by kernel_rfl), fun _ _ h => h⟩
  · intro listed a' w' hs hS hun hdep
    have e31 : a'.eval (.tmp 31) = .int .i64 6 := hs.eval 6 _ 31 rfl (hdep ⟨6, .data⟩ (by simp) rfl) rfl
    have e32 : a'.eval (.tmp 32) = .int .u32 (src : Nat) := hs.eval 7 _ 32 rfl (hdep ⟨7, .data⟩ (by simp) rfl) rfl
    have e33 : a'.eval (.tmp 33) = .int .u32 (dst : Nat) := hs.eval 8 _ 33 rfl (hdep ⟨8, .data⟩ (by simp) rfl) rfl
    have e34 : a'.eval (.tmp 34) = .string A := hs.eval 9 _ 34 rfl (hdep ⟨9, .data⟩ (by simp) rfl) rfl
    have e36 : a'.eval (.tmp 36) = .string d := hs.eval 11 _ 36 rfl (hdep ⟨11, .data⟩ (by simp) rfl) rfl
    have hcn := BigFrame.eval_const a'
    have hfn := BigFrame.eval_func a'
    generalize a'.eval = ev at *
    refine plan_call 14 #[.int .i64 6, .int .u32 (src : Nat), .int .u32 (dst : Nat), .string A, .string d] w' (by go_simp) ?_
    refine (HK.out w').mono ?_
    rintro e w'' ⟨rfl, hb⟩
    exact ⟨_, rfl, rfl, hS.below hbase hb 12 (by kernel_rfl), VS.keep hrows (Spare.of_below hb)⟩
  · intro listed a' w' hs hS hun hdep
    have e37 : a'.eval (.tmp 37) = .int .i64 (c : Nat) := hs.eval 12 _ 37 rfl (hdep ⟨12, .data⟩ (by simp) rfl) rfl
    have hcn := BigFrame.eval_const a'
    have hfn := BigFrame.eval_func a'
    generalize a'.eval = ev at *
    have hlt := hS.lt
    exact plan_val (.slice (some ⟨w'.heap.size, 0, none⟩) 1 1) (w'.alloc (.cells #[.int .i64 (c : Nat)] 3)) (by go_simp) ⟨⟨w'.heap.size, by omega, rfl, heap_alloc_new w' _⟩, hS.below hbase ((Below.refl _ w').alloc (Nat.le_refl _) _) 13 (by kernel_rfl), VS.keep hrows (Spare.alloc b w' _)⟩
  · intro listed a' w' hs hS hun hdep
    have e30 : a'.eval (.tmp 30) = .pointer (some ⟨b, 0, none⟩) := hs.eval 5 _ 30 rfl (hdep ⟨5, .data⟩ (by simp) rfl) rfl
    have r38 : (Spec.row #[.int .i64 (c : Nat)] 3).ok b (a'.eval (.tmp 38)) w' := hs.eval 13 _ 38 rfl (hdep ⟨13, .data⟩ (by simp) rfl) rfl
    generalize hg38 : a'.eval (.tmp 38) = g38 at r38
    have hcn := BigFrame.eval_const a'
    have hfn := BigFrame.eval_func a'
    generalize a'.eval = ev at *
    refine plan_call 13 #[.pointer (some ⟨b, 0, none⟩), g38] w' (by go_simp) ?_
    have n22 := hs.later 14 22 hun _ rfl .data (by simp) rfl
    have hsd : said [] [(5, txts [A1]), (14, [c].flatMap be2), (22, txts [A2, d])] (listed.setIfInBounds 14 true) = said [] [(5, txts [A1]), (14, [c].flatMap be2), (22, txts [A2, d])] listed ++ ([c].flatMap be2) := said_call [] [(5, txts [A1])] [(22, txts [A2, d])] 14 ([c].flatMap be2) listed (by have := hs.size; simp at this; omega) hun (by kernel_rfl) (by kernel_rfl) (fun c hc => by simp only [List.mem_cons, List.not_mem_nil, or_false] at hc; rcases hc with rfl <;> first | exact getD_both n22)
    have hle : (said [] [(5, txts [A1]), (14, [c].flatMap be2), (22, txts [A2, d])] listed).length + 2 ≤ 65535 := by have h1 := Nat.le_trans (said_le [] [(5, txts [A1]), (14, [c].flatMap be2), (22, txts [A2, d])] (listed.setIfInBounds 14 true)) hsum; rw [hsd, List.length_append] at h1; have h2 : ([c].flatMap be2).length = 2 := rfl; omega
    refine (short_row N b _ [(c : Int)] _ g38 #[.int .i64 (c : Nat)] w' hS.wr (by omega) (by simp) rfl r38 (puts_all be2 65535 2 (fun _ => rfl) [c] _ (by intro n hn; simp only [List.mem_cons, List.not_mem_nil, or_false] at hn; omega) (by simp only [List.length_cons, List.length_nil]; omega))).mono ?_
    rintro e w'' ⟨rfl, hw, hk⟩
    exact ⟨_, rfl, rfl, hS.call hNb (by decide) hk 14 (by rw [hsd]; exact hw), VS.keep hrows hk.spare⟩
  · intro listed a' w' hs hS hun hdep
    have e10 : a'.eval (.tmp 10) = .string A := (hs.was' 10 (by kernel_rfl)).trans (rfl)
    have hcn := BigFrame.eval_const a'
    have hfn := BigFrame.eval_func a'
    generalize a'.eval = ev at *
    exact plan_val (.string A) w' (by go_simp) ⟨rfl, hS.calm 15 (by kernel_rfl), fun _ _ h => h⟩
  · intro listed a' w' hs hS hun hdep
    have e11 : a'.eval (.tmp 11) = .int .i64 16 := (hs.was' 11 (by kernel_rfl)).trans (rfl)
    have hcn := BigFrame.eval_const a'
    have hfn := BigFrame.eval_func a'
    generalize a'.eval = ev at *
    exact plan_val (.int .i64 16) w' (by go_simp) ⟨rfl, hS.calm 16 (by kernel_rfl), fun _ _ h => h⟩
  · intro listed a' w' hs hS hun hdep
    have e41 : a'.eval (.tmp 41) = .int .i64 16 := hs.eval 16 _ 41 rfl (hdep ⟨16, .data⟩ (by simp) rfl) rfl
    have hcn := BigFrame.eval_const a'
    have hfn := BigFrame.eval_func a'
    generalize a'.eval = ev at *
    exact plan_val (.int .i64 18) w' (by go_simp) ⟨rfl, hS.calm 17 (by kernel_rfl), fun _ _ h => h⟩
  · intro listed a' w' hs hS hun hdep
    have e40 : a'.eval (.tmp 40) = .string A := hs.eval 15 _ 40 rfl (hdep ⟨15, .data⟩ (by simp) rfl) rfl
    have e42 : a'.eval (.tmp 42) = .int .i64 18 := hs.eval 17 _ 42 rfl (hdep ⟨17, .data⟩ (by simp) rfl) rfl
    have hcn := BigFrame.eval_const a'
    have hfn := BigFrame.eval_func a'
    generalize a'.eval = ev at *
    exact plan_val (.string A2) w' (by go_simp) ⟨rfl, hS.calm 18 (by kernel_rfl), fun _ _ h => h⟩
  · intro listed a' w' hs hS hun hdep
    have e7 : a'.eval (.tmp 7) = .pointer (some ⟨N, 0, none⟩) := (hs.was' 7 (by kernel_rfl)).trans (rfl)
    have hcn := BigFrame.eval_const a'
    have hfn := BigFrame.eval_func a'
    generalize a'.eval = ev at *
    exact plan_val (.pointer (some ⟨N, 6, none⟩)) w' (by go_simp) ⟨rfl, hS.calm 19 (by kernel_rfl), fun _ _ h => h⟩
  · intro listed a' w' hs hS hun hdep
    have e44 : a'.eval (.tmp 44) = .pointer (some ⟨N, 6, none⟩) := hs.eval 19 _ 44 rfl (hdep ⟨19, .data⟩ (by simp) rfl) rfl
    have hcn := BigFrame.eval_const a'
    have hfn := BigFrame.eval_func a'
    generalize a'.eval = ev at *
    obtain ⟨k0, k1, k2, k3, k4, k5, k6⟩ := Hc.out _ hS.pk
    exact plan_val (.string d) w' (by go_simp) ⟨rfl, hS.calm 20 (by kernel_rfl), fun _ _ h => h⟩
  · intro listed a' w' hs hS hun hdep
    have e43 : a'.eval (.tmp 43) = .string A2 := hs.eval 18 _ 43 rfl (hdep ⟨18, .data⟩ (by simp) rfl) rfl
    have e45 : a'.eval (.tmp 45) = .string d := hs.eval 20 _ 45 rfl (hdep ⟨20, .data⟩ (by simp) rfl) rfl
    have hcn := BigFrame.eval_const a'
    have hfn := BigFrame.eval_func a'
    generalize a'.eval = ev at *
    have hlt := hS.lt
    exact plan_val (.slice (some ⟨w'.heap.size, 0, none⟩) 2 2) (w'.alloc (.cells #[.string A2, .string d] 9)) (by go_simp) ⟨⟨w'.heap.size, by omega, rfl, heap_alloc_new w' _⟩, hS.below hbase ((Below.refl _ w').alloc (Nat.le_refl _) _) 21 (by kernel_rfl), VS.keep hrows (Spare.alloc b w' _)⟩
  · intro listed a' w' hs hS hun hdep
    have e39 : a'.eval (.tmp 39) = .pointer (some ⟨b, 0, none⟩) := hs.eval 14 _ 39 rfl (hdep ⟨14, .data⟩ (by simp) rfl) rfl
    have r46 : (Spec.row #[.string A2, .string d] 9).ok b (a'.eval (.tmp 46)) w' := hs.eval 21 _ 46 rfl (hdep ⟨21, .data⟩ (by simp) rfl) rfl
    generalize hg46 : a'.eval (.tmp 46) = g46 at r46
    have hcn := BigFrame.eval_const a'
    have hfn := BigFrame.eval_func a'
    generalize a'.eval = ev at *
    refine plan_call 12 #[.pointer (some ⟨b, 0, none⟩), g46] w' (by go_simp) ?_
    have hsd : said [] [(5, txts [A1]), (14, [c].flatMap be2), (22, txts [A2, d])] (listed.setIfInBounds 22 true) = said [] [(5, txts [A1]), (14, [c].flatMap be2), (22, txts [A2, d])] listed ++ (txts [A2, d]) := said_call [] [(5, txts [A1]), (14, [c].flatMap be2)] [] 22 (txts [A2, d]) listed (by have := hs.size; simp at this; omega) hun (by kernel_rfl) (by kernel_rfl) (fun c hc => by simp at hc)
    have hle : (said [] [(5, txts [A1]), (14, [c].flatMap be2), (22, txts [A2, d])] listed).length + (2 + d.size) ≤ 65535 := by have h1 := Nat.le_trans (said_le [] [(5, txts [A1]), (14, [c].flatMap be2), (22, txts [A2, d])] (listed.setIfInBounds 22 true)) hsum; rw [hsd, List.length_append] at h1; have h2 : (txts [A2, d]).length = (2 + d.size) := HL2.out; omega
    refine (texts_row N b _ [A2, d] _ g46 #[.string A2, .string d] w' hS.wr (by omega) (by simp) (by intro s hs; simp only [List.mem_cons, List.not_mem_nil, or_false] at hs; rcases hs with rfl | rfl <;> omega) rfl r46 (putsT_all [A2, d] _ (by simp only [List.map_cons, List.map_nil, List.sum_cons, List.sum_nil]; omega))).mono ?_
    rintro e w'' ⟨rfl, hw, hk⟩
    exact ⟨_, rfl, rfl, hS.call hNb (by decide) hk 22 (by rw [hsd]; exact hw), VS.keep hrows hk.spare⟩
  intro vs listed w4 hlen hV hall hS
  match vs, hlen, hV with
  | [v5_0, v5_1, v5_2, v5_3, v5_4, v5_5, v5_6, v5_7, v5_8, v5_9, v5_10, v5_11, v5_12, v5_13, v5_14, v5_15, v5_16, v5_17, v5_18, v5_19, v5_20, v5_21, v5_22], _, hV =>
    have q0 : v5_0 = .pointer (some ⟨b, 0, none⟩) := hV 0 _ rfl
    have q1 : v5_1 = .string A := hV 1 _ rfl
    have q2 : v5_2 = .int .i64 16 := hV 2 _ rfl
    have q3 : v5_3 = .string A1 := hV 3 _ rfl
    obtain ⟨r5_4, _, q4, _⟩ : (Spec.row #[.string A1] 9).ok b v5_4 w4 := hV 4 _ rfl
    have q5 : v5_5 = .pointer (some ⟨b, 0, none⟩) := hV 5 _ rfl
    have q6 : v5_6 = .int .i64 6 := hV 6 _ rfl
    have q7 : v5_7 = .int .u32 (src : Nat) := hV 7 _ rfl
    have q8 : v5_8 = .int .u32 (dst : Nat) := hV 8 _ rfl
    have q9 : v5_9 = .string A := hV 9 _ rfl
    have q10 : v5_10 = .pointer (some ⟨N, 6, none⟩) := hV 10 _ rfl
    have q11 : v5_11 = .string d := hV 11 _ rfl
    have q12 : v5_12 = .int .i64 (c : Nat) := hV 12 _ rfl
    obtain ⟨r5_13, _, q13, _⟩ : (Spec.row #[.int .i64 (c : Nat)] 3).ok b v5_13 w4 := hV 13 _ rfl
    have q14 : v5_14 = .pointer (some ⟨b, 0, none⟩) := hV 14 _ rfl
    have q15 : v5_15 = .string A := hV 15 _ rfl
    have q16 : v5_16 = .int .i64 16 := hV 16 _ rfl
    have q17 : v5_17 = .int .i64 18 := hV 17 _ rfl
    have q18 : v5_18 = .string A2 := hV 18 _ rfl
    have q19 : v5_19 = .pointer (some ⟨N, 6, none⟩) := hV 19 _ rfl
    have q20 : v5_20 = .string d := hV 20 _ rfl
    obtain ⟨r5_21, _, q21, _⟩ : (Spec.row #[.string A2, .string d] 9).ok b v5_21 w4 := hV 21 _ rfl
    have q22 : v5_22 = .pointer (some ⟨b, 0, none⟩) := hV 22 _ rfl
    have hbel5 := hS.bel
    have hpk5 := hS.pk
    have hwr5 := hS.wr
    rw [said_all _ _ _ (fun c hc => by simp only [List.mem_cons, List.not_mem_nil, or_false] at hc; rcases hc with rfl | rfl | rfl <;> exact hall _ (by simp))] at hwr5
    subst q0 q1 q2 q3 q4 q5 q6 q7 q8 q9 q10 q11 q12 q13 q14 q15 q16 q17 q18 q19 q20 q21 q22
    clear hV hall hS
    simp only [lays, Act.put, List.setIfInBounds_toArray, List.set_cons_zero, List.set_cons_succ]
    have hHD : ([] : List UInt8) ++ (([(5, txts [A1]), (14, [c].flatMap be2), (22, txts [A2, d])] : List (Nat × List UInt8)).map (·.2)).flatten = A1.data.toList ++ be2 c ++ (A2.data.toList ++ d.data.toList) := by simp [txts]
    rw [hHD] at hwr5
    have hHl : (A1.data.toList ++ be2 c ++ (A2.data.toList ++ d.data.toList)).length = 20 + d.size := by
      have e1 : A1.data.toList.length = 16 := by rw [← z1]; exact Array.length_toList
      have e2 : A2.data.toList.length = 2 := by rw [← z2]; exact Array.length_toList
      have e3 : d.data.toList.length = d.size := Array.length_toList
      have e4 : (be2 c).length = 2 := rfl
      rw [List.length_append, List.length_append, List.length_append, e1, e2, e3, e4]; omega
    generalize hHDe : A1.data.toList ++ be2 c ++ (A2.data.toList ++ d.data.toList) = HD at *
    have HDe := Lib.hid hHDe
    clear hHDe hHD hrows hsum hb3w hpk3 hwr3 Hc HL1 HL2 HK
    go_wp2_with fail
    refine (Done_any N b HD w4 hwr5 (by omega)).mono ?_
    rintro e w6 ⟨rfl, rfl⟩
    clear hwr5
    go_wp2
    go_ret2
    exact ⟨by rw [HDe.out]; rfl, by rw [hN]; exact hbel5⟩

set_option maxHeartbeats 8000000 in
theorem senc17 (src dst sp dp sq ak fl wi : Nat) (d : ByteArray) (w : World) (hsrc : src < 4294967296) (hdst : dst < 4294967296) (hsq : sq < 4294967296) (hak : ak < 4294967296) (hr : S.right 17 sp dp sq ak fl wi d.size = true) :
    Calls Try.prog 6 #[.int .i64 17, .int .u32 src, .int .u32 dst, sg sp dp sq ak fl wi d] w fun e w' =>
      e = .returned (.tuple #[.string (ba (S.put (S.head17 sp dp d.size) 6 (S.cks 17 src dst (S.head17 sp dp d.size) d) d)), .int .i64 0]) ∧ Below w.heap.size w w' := by
  have hr' : S.Right 17 sp dp sq ak fl wi d.size := of_decide_eq_true hr
  have hb : sp ≤ 65535 ∧ dp ≤ 65535 ∧ d.size ≤ 65507 := by
    unfold S.Right S.fits at hr'; omega
  obtain ⟨i1, i2, i3⟩ := hb
  have HR := Lib.hid (fun w' => sright_any 17 sp dp sq ak fl wi d w' (by omega) true hr.symm)
  have HH := Lib.hid (fun w' => head_udp sp dp sq ak fl wi d w' i1 i2 i3)
  have hcl := cks_le 17 src dst (S.head17 sp dp d.size) d
  have HK := Lib.hid (fun w' => checkSum_any 17 src dst (S.head17 sp dp d.size) d w' hsrc hdst (by rw [S.head17_length]; omega) (by omega) _ rfl)
  have hAs : (ba (S.head17 sp dp d.size)).size = 8 := rfl
  have hj : IntKind.i64.wrap 8 = 8 := by decide
  have Hout : Hid (S.put (S.head17 sp dp d.size) 6 (S.cks 17 src dst (S.head17 sp dp d.size) d) d = (S.head17 sp dp d.size).take 6 ++ be2 (S.cks 17 src dst (S.head17 sp dp d.size) d) ++ ((S.head17 sp dp d.size).drop 8 ++ d.data.toList)) := Lib.hid rfl
  have hx1 : (ba (S.head17 sp dp d.size)).extract 0 6 = ba ((S.head17 sp dp d.size).take 6) := ba_take _ _
  have hx2 : (ba (S.head17 sp dp d.size)).extract 8 8 = ba ((S.head17 sp dp d.size).drop 8) := ba_drop _ _
  have z1 : (ba ((S.head17 sp dp d.size).take 6)).size = 6 := rfl
  have hx3 : ByteArray.empty = ba ((S.head17 sp dp d.size).drop 8) := rfl
  have z2 : (ba ((S.head17 sp dp d.size).drop 8)).size = 0 := rfl
  have Ht : Hid ((S.head17 sp dp d.size).take 6 = (ba ((S.head17 sp dp d.size).take 6)).data.toList) := Lib.hid (ba_list _).symm
  have Hd : Hid ((S.head17 sp dp d.size).drop 8 = (ba ((S.head17 sp dp d.size).drop 8)).data.toList) := Lib.hid (ba_list _).symm
  rw [Ht.out, Hd.out] at Hout
  rw [Hout.out]
  clear Hout Ht Hd hr hr'
  generalize ba ((S.head17 sp dp d.size).take 6) = A1 at *
  generalize ba ((S.head17 sp dp d.size).drop 8) = A2 at *
  generalize S.cks 17 src dst (S.head17 sp dp d.size) d = c at *
  generalize ba (S.head17 sp dp d.size) = A at *
  have Hc : Hid (∀ w' : World, w'.heap[w.heap.size]? = some (.cells #[.int .i64 (sp : Nat), .int .i64 (dp : Nat), .int .u32 (sq : Nat), .int .u32 (ak : Nat), .int .i64 (fl : Nat), .int .i64 (wi : Nat), .string d] 24 (0, 0)) → w'.cell? ⟨w.heap.size, 0, none⟩ = some (.int .i64 (sp : Nat)) ∧ w'.cell? ⟨w.heap.size, 1, none⟩ = some (.int .i64 (dp : Nat)) ∧ w'.cell? ⟨w.heap.size, 2, none⟩ = some (.int .u32 (sq : Nat)) ∧ w'.cell? ⟨w.heap.size, 3, none⟩ = some (.int .u32 (ak : Nat)) ∧ w'.cell? ⟨w.heap.size, 4, none⟩ = some (.int .i64 (fl : Nat)) ∧ w'.cell? ⟨w.heap.size, 5, none⟩ = some (.int .i64 (wi : Nat)) ∧ w'.cell? ⟨w.heap.size, 6, none⟩ = some (.string d)) :=
    Lib.hid fun w' hw' => by simp [World.cell?, hw']
  have hpk0 : (w.alloc (sgO sp dp sq ak fl wi d)).heap[w.heap.size]? = some (sgO sp dp sq ak fl wi d) := heap_alloc_new w _
  have hb0 : Below w.heap.size w (w.alloc (sgO sp dp sq ak fl wi d)) := (Below.refl _ w).alloc (Nat.le_refl _) _
  go_enter Try.func6, Try.ntmps6
  go_wp2_with fail
  refine (HR.out _).mono ?_
  rintro e w1 ⟨rfl, hb1⟩
  have hb1w := hb0.trans (hb1.mono hb0.size)
  have hpk1 := (hb1.block w.heap.size (lt_of_block hpk0)).trans hpk0
  obtain ⟨k0, k1, k2, k3, k4, k5, k6⟩ := Hc.out _ hpk1
  clear HR hb0 hb1 hpk0
  go_wp2_with fail
  refine (HH.out _).mono ?_
  rintro e w2 ⟨rfl, hb2⟩
  have hb2w := hb1w.trans (hb2.mono hb1w.size)
  have hpk2 := (hb2.block w.heap.size (lt_of_block hpk1)).trans hpk1
  clear HH hb1w hb2 hpk1 k0 k1 k2 k3 k4 k5 k6
  go_upto_region 5 with fail
  have hwr3 : Wr w.heap.size w2.heap.size [] (w2.alloc (.cells #[.bool false, .slice none 0 0] 43)) := ⟨hb2w.size, none, 0, heap_alloc_new w2 _, World.ownsRow_nil _ _ _ _⟩
  have hpk3 : (w2.alloc (.cells #[.bool false, .slice none 0 0] 43)).heap[w.heap.size]? = some (sgO sp dp sq ak fl wi d) := (Below.heap_alloc w2 _ _ (lt_of_block hpk2)).trans hpk2
  have hb3w : Below w.heap.size w (w2.alloc (.cells #[.bool false, .slice none 0 0] 43)) := hb2w.alloc hb2w.size _
  have hNb : w.heap.size ≠ w2.heap.size := by have := lt_of_block hpk2; omega
  generalize (w2.alloc (.cells #[.bool false, .slice none 0 0] 43)) = w3 at *
  generalize w2.heap.size = b at *
  clear hb2w hpk2
  generalize hN : w.heap.size = N at *
  have hbase : N ≤ w.heap.size := by rw [hN]; exact Nat.le_refl _
  have HL1 : Hid ((txts [A1]).length = 6) := Lib.hid (by rw [txts_one, z1])
  have HL2 : Hid ((txts [A2, d]).length = 0 + d.size) := Lib.hid (by rw [txts_two, z2])
  have hrows : rowsB [.val (.pointer (some ⟨b, 0, none⟩)), .val (.string A), .val (.int .i64 6), .val (.string A1), .row #[.string A1] 9, .val (.pointer (some ⟨b, 0, none⟩)), .val (.int .i64 17), .val (.int .u32 (src : Nat)), .val (.int .u32 (dst : Nat)), .val (.string A), .val (.pointer (some ⟨N, 6, none⟩)), .val (.string d), .val (.int .i64 (c : Nat)), .row #[.int .i64 (c : Nat)] 3, .val (.pointer (some ⟨b, 0, none⟩)), .val (.string A), .val (.int .i64 6), .val (.int .i64 8), .val (.string A2), .val (.pointer (some ⟨N, 6, none⟩)), .val (.string d), .row #[.string A2, .string d] 9, .val (.pointer (some ⟨b, 0, none⟩))] = true := by kernel_rfl
  have hsum : ([] : List UInt8).length + (([(5, txts [A1]), (14, [c].flatMap be2), (22, txts [A2, d])] : List (Nat × List UInt8)).map fun c => c.2.length).sum ≤ 65535 := by simp only [List.map_cons, List.map_nil, List.sum_cons, List.sum_nil, HL1.out, HL2.out, List.length_nil]; have : ([c].flatMap be2).length = 2 := rfl; omega
  refine region_plan' (VS b [.val (.pointer (some ⟨b, 0, none⟩)), .val (.string A), .val (.int .i64 6), .val (.string A1), .row #[.string A1] 9, .val (.pointer (some ⟨b, 0, none⟩)), .val (.int .i64 17), .val (.int .u32 (src : Nat)), .val (.int .u32 (dst : Nat)), .val (.string A), .val (.pointer (some ⟨N, 6, none⟩)), .val (.string d), .val (.int .i64 (c : Nat)), .row #[.int .i64 (c : Nat)] 3, .val (.pointer (some ⟨b, 0, none⟩)), .val (.string A), .val (.int .i64 6), .val (.int .i64 8), .val (.string A2), .val (.pointer (some ⟨N, 6, none⟩)), .val (.string d), .row #[.string A2, .string d] 9, .val (.pointer (some ⟨b, 0, none⟩))]) (ChS N w N #[.int .i64 (sp : Nat), .int .i64 (dp : Nat), .int .u32 (sq : Nat), .int .u32 (ak : Nat), .int .i64 (fl : Nat), .int .i64 (wi : Nat), .string d] 24 b [] [(5, txts [A1]), (14, [c].flatMap be2), (22, txts [A2, d])]) (by kernel_rfl) (by kernel_rfl) ⟨hb3w.drew, hpk3, by rw [said_zero]; exact ⟨hwr3.low, hwr3.cells⟩⟩ ⟨?_, ?_, ?_, ?_, ?_, ?_, ?_, ?_, ?_, ?_, ?_, ?_, ?_, ?_, ?_, ?_, ?_, ?_, ?_, ?_, ?_, ?_, ?_, trivial⟩ ?_
  · intro listed a' w' hs hS hun hdep
    have e12 : a'.eval (.tmp 12) = .pointer (some ⟨b, 0, none⟩) := (hs.was' 12 (by kernel_rfl)).trans (rfl)
    have hcn := BigFrame.eval_const a'
    have hfn := BigFrame.eval_func a'
    generalize a'.eval = ev at *
    exact plan_val (.pointer (some ⟨b, 0, none⟩)) w' (by go_simp) ⟨rfl, hS.calm 0 (by kernel_rfl), fun _ _ h => h⟩
  · intro listed a' w' hs hS hun hdep
    have e10 : a'.eval (.tmp 10) = .string A := (hs.was' 10 (by kernel_rfl)).trans (rfl)
    have hcn := BigFrame.eval_const a'
    have hfn := BigFrame.eval_func a'
    generalize a'.eval = ev at *
    exact plan_val (.string A) w' (by go_simp) ⟨rfl, hS.calm 1 (by kernel_rfl), fun _ _ h => h⟩
  · intro listed a' w' hs hS hun hdep
    have e11 : a'.eval (.tmp 11) = .int .i64 6 := (hs.was' 11 (by kernel_rfl)).trans (rfl)
    have hcn := BigFrame.eval_const a'
    have hfn := BigFrame.eval_func a'
    generalize a'.eval = ev at *
    exact plan_val (.int .i64 6) w' (by go_simp) ⟨rfl, hS.calm 2 (by kernel_rfl), fun _ _ h => h⟩
  · intro listed a' w' hs hS hun hdep
    have e26 : a'.eval (.tmp 26) = .string A := hs.eval 1 _ 26 rfl (hdep ⟨1, .data⟩ (by simp) rfl) rfl
    have e27 : a'.eval (.tmp 27) = .int .i64 6 := hs.eval 2 _ 27 rfl (hdep ⟨2, .data⟩ (by simp) rfl) rfl
    have hcn := BigFrame.eval_const a'
    have hfn := BigFrame.eval_func a'
    generalize a'.eval = ev at *
    exact plan_val (.string A1) w' (by go_simp) ⟨rfl, hS.calm 3 (by kernel_rfl), fun _ _ h => h⟩
  · intro listed a' w' hs hS hun hdep
    have e28 : a'.eval (.tmp 28) = .string A1 := hs.eval 3 _ 28 rfl (hdep ⟨3, .data⟩ (by simp) rfl) rfl
    have hcn := BigFrame.eval_const a'
    have hfn := BigFrame.eval_func a'
    generalize a'.eval = ev at *
    have hlt := hS.lt
    exact plan_val (.slice (some ⟨w'.heap.size, 0, none⟩) 1 1) (w'.alloc (.cells #[.string A1] 9)) (by go_simp) ⟨⟨w'.heap.size, by omega, rfl, heap_alloc_new w' _⟩, hS.below hbase ((Below.refl _ w').alloc (Nat.le_refl _) _) 4 (by kernel_rfl), VS.keep hrows (Spare.alloc b w' _)⟩
  · intro listed a' w' hs hS hun hdep
    have e25 : a'.eval (.tmp 25) = .pointer (some ⟨b, 0, none⟩) := hs.eval 0 _ 25 rfl (hdep ⟨0, .data⟩ (by simp) rfl) rfl
    have r29 : (Spec.row #[.string A1] 9).ok b (a'.eval (.tmp 29)) w' := hs.eval 4 _ 29 rfl (hdep ⟨4, .data⟩ (by simp) rfl) rfl
    generalize hg29 : a'.eval (.tmp 29) = g29 at r29
    have hcn := BigFrame.eval_const a'
    have hfn := BigFrame.eval_func a'
    generalize a'.eval = ev at *
    refine plan_call 12 #[.pointer (some ⟨b, 0, none⟩), g29] w' (by go_simp) ?_
    have n14 := hs.later 5 14 hun _ rfl .data (by simp) rfl
    have n22 := hs.later 14 22 n14 _ rfl .data (by simp) rfl
    have hsd : said [] [(5, txts [A1]), (14, [c].flatMap be2), (22, txts [A2, d])] (listed.setIfInBounds 5 true) = said [] [(5, txts [A1]), (14, [c].flatMap be2), (22, txts [A2, d])] listed ++ (txts [A1]) := said_call [] [] [(14, [c].flatMap be2), (22, txts [A2, d])] 5 (txts [A1]) listed (by have := hs.size; simp at this; omega) hun (by kernel_rfl) (by kernel_rfl) (fun c hc => by simp only [List.mem_cons, List.not_mem_nil, or_false] at hc; rcases hc with rfl | rfl <;> first | exact getD_both n14 | exact getD_both n22)
    have hle : (said [] [(5, txts [A1]), (14, [c].flatMap be2), (22, txts [A2, d])] listed).length + 6 ≤ 65535 := by have h1 := Nat.le_trans (said_le [] [(5, txts [A1]), (14, [c].flatMap be2), (22, txts [A2, d])] (listed.setIfInBounds 5 true)) hsum; rw [hsd, List.length_append] at h1; have h2 : (txts [A1]).length = 6 := HL1.out; omega
    refine (texts_row N b _ [A1] _ g29 #[.string A1] w' hS.wr (by omega) (by simp) (by intro s hs; rw [List.mem_singleton.1 hs]; omega) rfl r29 (putsT_all [A1] _ (by simp only [List.map_cons, List.map_nil, List.sum_cons, List.sum_nil]; omega))).mono ?_
    rintro e w'' ⟨rfl, hw, hk⟩
    exact ⟨_, rfl, rfl, hS.call hNb (by decide) hk 5 (by rw [hsd]; exact hw), VS.keep hrows hk.spare⟩
  · intro listed a' w' hs hS hun hdep
    have e0 : a'.eval (.tmp 0) = .int .i64 17 := (hs.was' 0 (by kernel_rfl)).trans (rfl)
    have hcn := BigFrame.eval_const a'
    have hfn := BigFrame.eval_func a'
    generalize a'.eval = ev at *
    exact plan_val (.int .i64 17) w' (by go_simp) ⟨rfl, hS.calm 6 (by kernel_rfl), fun _ _ h => h⟩
  · intro listed a' w' hs hS hun hdep
    have e1 : a'.eval (.tmp 1) = .int .u32 (src : Nat) := (hs.was' 1 (by kernel_rfl)).trans (rfl)
    have hcn := BigFrame.eval_const a'
    have hfn := BigFrame.eval_func a'
    generalize a'.eval = ev at *
    exact plan_val (.int .u32 (src : Nat)) w' (by go_simp) ⟨rfl, hS.calm 7 (by kernel_rfl), fun _ _ h => h⟩
  · intro listed a' w' hs hS hun hdep
    have e2 : a'.eval (.tmp 2) = .int .u32 (dst : Nat) := (hs.was' 2 (by kernel_rfl)).trans (rfl)
    have hcn := BigFrame.eval_const a'
    have hfn := BigFrame.eval_func a'
    generalize a'.eval = ev at *
    exact plan_val (.int .u32 (dst : Nat)) w' (by go_simp) ⟨rfl, hS.calm 8 (by kernel_rfl), fun _ _ h => h⟩
  · intro listed a' w' hs hS hun hdep
    have e10 : a'.eval (.tmp 10) = .string A := (hs.was' 10 (by kernel_rfl)).trans (rfl)
    have hcn := BigFrame.eval_const a'
    have hfn := BigFrame.eval_func a'
    generalize a'.eval = ev at *
    exact plan_val (.string A) w' (by go_simp) ⟨rfl, hS.calm 9 (by kernel_rfl), fun _ _ h => h⟩
  · intro listed a' w' hs hS hun hdep
    have e7 : a'.eval (.tmp 7) = .pointer (some ⟨N, 0, none⟩) := (hs.was' 7 (by kernel_rfl)).trans (rfl)
    have hcn := BigFrame.eval_const a'
    have hfn := BigFrame.eval_func a'
    generalize a'.eval = ev at *
    exact plan_val (.pointer (some ⟨N, 6, none⟩)) w' (by go_simp) ⟨rfl, hS.calm 10 (by kernel_rfl), fun _ _ h => h⟩
  · intro listed a' w' hs hS hun hdep
    have e35 : a'.eval (.tmp 35) = .pointer (some ⟨N, 6, none⟩) := hs.eval 10 _ 35 rfl (hdep ⟨10, .data⟩ (by simp) rfl) rfl
    have hcn := BigFrame.eval_const a'
    have hfn := BigFrame.eval_func a'
    generalize a'.eval = ev at *
    obtain ⟨k0, k1, k2, k3, k4, k5, k6⟩ := Hc.out _ hS.pk
    exact plan_val (.string d) w' (by go_simp) ⟨rfl, hS.calm 11 (by kernel_rfl), fun _ _ h => h⟩
  · intro listed a' w' hs hS hun hdep
    have e31 : a'.eval (.tmp 31) = .int .i64 17 := hs.eval 6 _ 31 rfl (hdep ⟨6, .data⟩ (by simp) rfl) rfl
    have e32 : a'.eval (.tmp 32) = .int .u32 (src : Nat) := hs.eval 7 _ 32 rfl (hdep ⟨7, .data⟩ (by simp) rfl) rfl
    have e33 : a'.eval (.tmp 33) = .int .u32 (dst : Nat) := hs.eval 8 _ 33 rfl (hdep ⟨8, .data⟩ (by simp) rfl) rfl
    have e34 : a'.eval (.tmp 34) = .string A := hs.eval 9 _ 34 rfl (hdep ⟨9, .data⟩ (by simp) rfl) rfl
    have e36 : a'.eval (.tmp 36) = .string d := hs.eval 11 _ 36 rfl (hdep ⟨11, .data⟩ (by simp) rfl) rfl
    have hcn := BigFrame.eval_const a'
    have hfn := BigFrame.eval_func a'
    generalize a'.eval = ev at *
    refine plan_call 14 #[.int .i64 17, .int .u32 (src : Nat), .int .u32 (dst : Nat), .string A, .string d] w' (by go_simp) ?_
    refine (HK.out w').mono ?_
    rintro e w'' ⟨rfl, hb⟩
    exact ⟨_, rfl, rfl, hS.below hbase hb 12 (by kernel_rfl), VS.keep hrows (Spare.of_below hb)⟩
  · intro listed a' w' hs hS hun hdep
    have e37 : a'.eval (.tmp 37) = .int .i64 (c : Nat) := hs.eval 12 _ 37 rfl (hdep ⟨12, .data⟩ (by simp) rfl) rfl
    have hcn := BigFrame.eval_const a'
    have hfn := BigFrame.eval_func a'
    generalize a'.eval = ev at *
    have hlt := hS.lt
    exact plan_val (.slice (some ⟨w'.heap.size, 0, none⟩) 1 1) (w'.alloc (.cells #[.int .i64 (c : Nat)] 3)) (by go_simp) ⟨⟨w'.heap.size, by omega, rfl, heap_alloc_new w' _⟩, hS.below hbase ((Below.refl _ w').alloc (Nat.le_refl _) _) 13 (by kernel_rfl), VS.keep hrows (Spare.alloc b w' _)⟩
  · intro listed a' w' hs hS hun hdep
    have e30 : a'.eval (.tmp 30) = .pointer (some ⟨b, 0, none⟩) := hs.eval 5 _ 30 rfl (hdep ⟨5, .data⟩ (by simp) rfl) rfl
    have r38 : (Spec.row #[.int .i64 (c : Nat)] 3).ok b (a'.eval (.tmp 38)) w' := hs.eval 13 _ 38 rfl (hdep ⟨13, .data⟩ (by simp) rfl) rfl
    generalize hg38 : a'.eval (.tmp 38) = g38 at r38
    have hcn := BigFrame.eval_const a'
    have hfn := BigFrame.eval_func a'
    generalize a'.eval = ev at *
    refine plan_call 13 #[.pointer (some ⟨b, 0, none⟩), g38] w' (by go_simp) ?_
    have n22 := hs.later 14 22 hun _ rfl .data (by simp) rfl
    have hsd : said [] [(5, txts [A1]), (14, [c].flatMap be2), (22, txts [A2, d])] (listed.setIfInBounds 14 true) = said [] [(5, txts [A1]), (14, [c].flatMap be2), (22, txts [A2, d])] listed ++ ([c].flatMap be2) := said_call [] [(5, txts [A1])] [(22, txts [A2, d])] 14 ([c].flatMap be2) listed (by have := hs.size; simp at this; omega) hun (by kernel_rfl) (by kernel_rfl) (fun c hc => by simp only [List.mem_cons, List.not_mem_nil, or_false] at hc; rcases hc with rfl <;> first | exact getD_both n22)
    have hle : (said [] [(5, txts [A1]), (14, [c].flatMap be2), (22, txts [A2, d])] listed).length + 2 ≤ 65535 := by have h1 := Nat.le_trans (said_le [] [(5, txts [A1]), (14, [c].flatMap be2), (22, txts [A2, d])] (listed.setIfInBounds 14 true)) hsum; rw [hsd, List.length_append] at h1; have h2 : ([c].flatMap be2).length = 2 := rfl; omega
    refine (short_row N b _ [(c : Int)] _ g38 #[.int .i64 (c : Nat)] w' hS.wr (by omega) (by simp) rfl r38 (puts_all be2 65535 2 (fun _ => rfl) [c] _ (by intro n hn; simp only [List.mem_cons, List.not_mem_nil, or_false] at hn; omega) (by simp only [List.length_cons, List.length_nil]; omega))).mono ?_
    rintro e w'' ⟨rfl, hw, hk⟩
    exact ⟨_, rfl, rfl, hS.call hNb (by decide) hk 14 (by rw [hsd]; exact hw), VS.keep hrows hk.spare⟩
  · intro listed a' w' hs hS hun hdep
    have e10 : a'.eval (.tmp 10) = .string A := (hs.was' 10 (by kernel_rfl)).trans (rfl)
    have hcn := BigFrame.eval_const a'
    have hfn := BigFrame.eval_func a'
    generalize a'.eval = ev at *
    exact plan_val (.string A) w' (by go_simp) ⟨rfl, hS.calm 15 (by kernel_rfl), fun _ _ h => h⟩
  · intro listed a' w' hs hS hun hdep
    have e11 : a'.eval (.tmp 11) = .int .i64 6 := (hs.was' 11 (by kernel_rfl)).trans (rfl)
    have hcn := BigFrame.eval_const a'
    have hfn := BigFrame.eval_func a'
    generalize a'.eval = ev at *
    exact plan_val (.int .i64 6) w' (by go_simp) ⟨rfl, hS.calm 16 (by kernel_rfl), fun _ _ h => h⟩
  · intro listed a' w' hs hS hun hdep
    have e41 : a'.eval (.tmp 41) = .int .i64 6 := hs.eval 16 _ 41 rfl (hdep ⟨16, .data⟩ (by simp) rfl) rfl
    have hcn := BigFrame.eval_const a'
    have hfn := BigFrame.eval_func a'
    generalize a'.eval = ev at *
    exact plan_val (.int .i64 8) w' (by go_simp) ⟨rfl, hS.calm 17 (by kernel_rfl), fun _ _ h => h⟩
  · intro listed a' w' hs hS hun hdep
    have e40 : a'.eval (.tmp 40) = .string A := hs.eval 15 _ 40 rfl (hdep ⟨15, .data⟩ (by simp) rfl) rfl
    have e42 : a'.eval (.tmp 42) = .int .i64 8 := hs.eval 17 _ 42 rfl (hdep ⟨17, .data⟩ (by simp) rfl) rfl
    have hcn := BigFrame.eval_const a'
    have hfn := BigFrame.eval_func a'
    generalize a'.eval = ev at *
    exact plan_val (.string A2) w' (by go_simp) ⟨rfl, hS.calm 18 (by kernel_rfl), fun _ _ h => h⟩
  · intro listed a' w' hs hS hun hdep
    have e7 : a'.eval (.tmp 7) = .pointer (some ⟨N, 0, none⟩) := (hs.was' 7 (by kernel_rfl)).trans (rfl)
    have hcn := BigFrame.eval_const a'
    have hfn := BigFrame.eval_func a'
    generalize a'.eval = ev at *
    exact plan_val (.pointer (some ⟨N, 6, none⟩)) w' (by go_simp) ⟨rfl, hS.calm 19 (by kernel_rfl), fun _ _ h => h⟩
  · intro listed a' w' hs hS hun hdep
    have e44 : a'.eval (.tmp 44) = .pointer (some ⟨N, 6, none⟩) := hs.eval 19 _ 44 rfl (hdep ⟨19, .data⟩ (by simp) rfl) rfl
    have hcn := BigFrame.eval_const a'
    have hfn := BigFrame.eval_func a'
    generalize a'.eval = ev at *
    obtain ⟨k0, k1, k2, k3, k4, k5, k6⟩ := Hc.out _ hS.pk
    exact plan_val (.string d) w' (by go_simp) ⟨rfl, hS.calm 20 (by kernel_rfl), fun _ _ h => h⟩
  · intro listed a' w' hs hS hun hdep
    have e43 : a'.eval (.tmp 43) = .string A2 := hs.eval 18 _ 43 rfl (hdep ⟨18, .data⟩ (by simp) rfl) rfl
    have e45 : a'.eval (.tmp 45) = .string d := hs.eval 20 _ 45 rfl (hdep ⟨20, .data⟩ (by simp) rfl) rfl
    have hcn := BigFrame.eval_const a'
    have hfn := BigFrame.eval_func a'
    generalize a'.eval = ev at *
    have hlt := hS.lt
    exact plan_val (.slice (some ⟨w'.heap.size, 0, none⟩) 2 2) (w'.alloc (.cells #[.string A2, .string d] 9)) (by go_simp) ⟨⟨w'.heap.size, by omega, rfl, heap_alloc_new w' _⟩, hS.below hbase ((Below.refl _ w').alloc (Nat.le_refl _) _) 21 (by kernel_rfl), VS.keep hrows (Spare.alloc b w' _)⟩
  · intro listed a' w' hs hS hun hdep
    have e39 : a'.eval (.tmp 39) = .pointer (some ⟨b, 0, none⟩) := hs.eval 14 _ 39 rfl (hdep ⟨14, .data⟩ (by simp) rfl) rfl
    have r46 : (Spec.row #[.string A2, .string d] 9).ok b (a'.eval (.tmp 46)) w' := hs.eval 21 _ 46 rfl (hdep ⟨21, .data⟩ (by simp) rfl) rfl
    generalize hg46 : a'.eval (.tmp 46) = g46 at r46
    have hcn := BigFrame.eval_const a'
    have hfn := BigFrame.eval_func a'
    generalize a'.eval = ev at *
    refine plan_call 12 #[.pointer (some ⟨b, 0, none⟩), g46] w' (by go_simp) ?_
    have hsd : said [] [(5, txts [A1]), (14, [c].flatMap be2), (22, txts [A2, d])] (listed.setIfInBounds 22 true) = said [] [(5, txts [A1]), (14, [c].flatMap be2), (22, txts [A2, d])] listed ++ (txts [A2, d]) := said_call [] [(5, txts [A1]), (14, [c].flatMap be2)] [] 22 (txts [A2, d]) listed (by have := hs.size; simp at this; omega) hun (by kernel_rfl) (by kernel_rfl) (fun c hc => by simp at hc)
    have hle : (said [] [(5, txts [A1]), (14, [c].flatMap be2), (22, txts [A2, d])] listed).length + (0 + d.size) ≤ 65535 := by have h1 := Nat.le_trans (said_le [] [(5, txts [A1]), (14, [c].flatMap be2), (22, txts [A2, d])] (listed.setIfInBounds 22 true)) hsum; rw [hsd, List.length_append] at h1; have h2 : (txts [A2, d]).length = (0 + d.size) := HL2.out; omega
    refine (texts_row N b _ [A2, d] _ g46 #[.string A2, .string d] w' hS.wr (by omega) (by simp) (by intro s hs; simp only [List.mem_cons, List.not_mem_nil, or_false] at hs; rcases hs with rfl | rfl <;> omega) rfl r46 (putsT_all [A2, d] _ (by simp only [List.map_cons, List.map_nil, List.sum_cons, List.sum_nil]; omega))).mono ?_
    rintro e w'' ⟨rfl, hw, hk⟩
    exact ⟨_, rfl, rfl, hS.call hNb (by decide) hk 22 (by rw [hsd]; exact hw), VS.keep hrows hk.spare⟩
  intro vs listed w4 hlen hV hall hS
  match vs, hlen, hV with
  | [v5_0, v5_1, v5_2, v5_3, v5_4, v5_5, v5_6, v5_7, v5_8, v5_9, v5_10, v5_11, v5_12, v5_13, v5_14, v5_15, v5_16, v5_17, v5_18, v5_19, v5_20, v5_21, v5_22], _, hV =>
    have q0 : v5_0 = .pointer (some ⟨b, 0, none⟩) := hV 0 _ rfl
    have q1 : v5_1 = .string A := hV 1 _ rfl
    have q2 : v5_2 = .int .i64 6 := hV 2 _ rfl
    have q3 : v5_3 = .string A1 := hV 3 _ rfl
    obtain ⟨r5_4, _, q4, _⟩ : (Spec.row #[.string A1] 9).ok b v5_4 w4 := hV 4 _ rfl
    have q5 : v5_5 = .pointer (some ⟨b, 0, none⟩) := hV 5 _ rfl
    have q6 : v5_6 = .int .i64 17 := hV 6 _ rfl
    have q7 : v5_7 = .int .u32 (src : Nat) := hV 7 _ rfl
    have q8 : v5_8 = .int .u32 (dst : Nat) := hV 8 _ rfl
    have q9 : v5_9 = .string A := hV 9 _ rfl
    have q10 : v5_10 = .pointer (some ⟨N, 6, none⟩) := hV 10 _ rfl
    have q11 : v5_11 = .string d := hV 11 _ rfl
    have q12 : v5_12 = .int .i64 (c : Nat) := hV 12 _ rfl
    obtain ⟨r5_13, _, q13, _⟩ : (Spec.row #[.int .i64 (c : Nat)] 3).ok b v5_13 w4 := hV 13 _ rfl
    have q14 : v5_14 = .pointer (some ⟨b, 0, none⟩) := hV 14 _ rfl
    have q15 : v5_15 = .string A := hV 15 _ rfl
    have q16 : v5_16 = .int .i64 6 := hV 16 _ rfl
    have q17 : v5_17 = .int .i64 8 := hV 17 _ rfl
    have q18 : v5_18 = .string A2 := hV 18 _ rfl
    have q19 : v5_19 = .pointer (some ⟨N, 6, none⟩) := hV 19 _ rfl
    have q20 : v5_20 = .string d := hV 20 _ rfl
    obtain ⟨r5_21, _, q21, _⟩ : (Spec.row #[.string A2, .string d] 9).ok b v5_21 w4 := hV 21 _ rfl
    have q22 : v5_22 = .pointer (some ⟨b, 0, none⟩) := hV 22 _ rfl
    have hbel5 := hS.bel
    have hpk5 := hS.pk
    have hwr5 := hS.wr
    rw [said_all _ _ _ (fun c hc => by simp only [List.mem_cons, List.not_mem_nil, or_false] at hc; rcases hc with rfl | rfl | rfl <;> exact hall _ (by simp))] at hwr5
    subst q0 q1 q2 q3 q4 q5 q6 q7 q8 q9 q10 q11 q12 q13 q14 q15 q16 q17 q18 q19 q20 q21 q22
    clear hV hall hS
    simp only [lays, Act.put, List.setIfInBounds_toArray, List.set_cons_zero, List.set_cons_succ]
    have hHD : ([] : List UInt8) ++ (([(5, txts [A1]), (14, [c].flatMap be2), (22, txts [A2, d])] : List (Nat × List UInt8)).map (·.2)).flatten = A1.data.toList ++ be2 c ++ (A2.data.toList ++ d.data.toList) := by simp [txts]
    rw [hHD] at hwr5
    have hHl : (A1.data.toList ++ be2 c ++ (A2.data.toList ++ d.data.toList)).length = 8 + d.size := by
      have e1 : A1.data.toList.length = 6 := by rw [← z1]; exact Array.length_toList
      have e2 : A2.data.toList.length = 0 := by rw [← z2]; exact Array.length_toList
      have e3 : d.data.toList.length = d.size := Array.length_toList
      have e4 : (be2 c).length = 2 := rfl
      rw [List.length_append, List.length_append, List.length_append, e1, e2, e3, e4]; omega
    generalize hHDe : A1.data.toList ++ be2 c ++ (A2.data.toList ++ d.data.toList) = HD at *
    have HDe := Lib.hid hHDe
    clear hHDe hHD hrows hsum hb3w hpk3 hwr3 Hc HL1 HL2 HK
    go_wp2_with fail
    refine (Done_any N b HD w4 hwr5 (by omega)).mono ?_
    rintro e w6 ⟨rfl, rfl⟩
    clear hwr5
    go_wp2
    go_ret2
    exact ⟨by rw [HDe.out]; rfl, by rw [hN]; exact hbel5⟩

theorem senc_bad (p sp dp sq ak fl wi : Int) (src dst : Nat) (d : ByteArray) (w : World) (hd : d.size ≤ 100000) (hr : S.right p sp dp sq ak fl wi d.size = false) :
    Calls Try.prog 6 #[.int .i64 p, .int .u32 src, .int .u32 dst, sg sp dp sq ak fl wi d] w fun e w' => e = .returned (.tuple #[.string ⟨#[]⟩, .int .i64 1]) ∧ Below w.heap.size w w' := by
  have HR := Lib.hid (fun w' => sright_any p sp dp sq ak fl wi d w' hd false hr.symm)
  have hb0 : Below w.heap.size w (w.alloc (sgO sp dp sq ak fl wi d)) := (Below.refl _ w).alloc (Nat.le_refl _) _
  clear hr
  go_enter Try.func6, Try.ntmps6
  go_wp2_with fail
  refine (HR.out _).mono ?_
  rintro e w1 ⟨rfl, hb1⟩
  have hb1w := hb0.trans (hb1.mono hb0.size)
  clear HR hb0 hb1
  go_wp2
  go_ret2
  exact ⟨rfl, hb1w⟩
#print axioms senc6
#print axioms senc17
#print axioms senc_bad
end Go.Proofs.Ytohemlejceiojaa
