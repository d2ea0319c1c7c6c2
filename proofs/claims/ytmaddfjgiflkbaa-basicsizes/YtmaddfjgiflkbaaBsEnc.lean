/- The walk of what makes a label's option. -/
import Derived.Test.YtmaddfjgiflkbaaBsData
import Derived.Test.YtmaddfjgiflkbaaOpAt
import Derived.WalkSpells
import Derived.WalkSmall
namespace Go.Proofs.Ytmaddfjgiflkbaa
open Go.RowKit
set_option maxRecDepth 100000
set_option linter.unusedVariables false
namespace BsEnc
theorem vs_cons {n : Nat} (vs : List Value) (h : vs.length = n + 1) : ∃ v r, vs = v :: r ∧ r.length = n := by
  cases vs with
  | nil => simp at h
  | cons v r => exact ⟨v, r, rfl, by simpa using h⟩
theorem vs_5 (vs : List Value) (h : vs.length = 5) : ∃ v0 v1 v2 v3 v4, vs = [v0, v1, v2, v3, v4] := by
  obtain ⟨v0, r0, rfl, h0⟩ := vs_cons vs h
  obtain ⟨v1, r1, rfl, h1⟩ := vs_cons r0 h0
  obtain ⟨v2, r2, rfl, h2⟩ := vs_cons r1 h1
  obtain ⟨v3, r3, rfl, h3⟩ := vs_cons r2 h2
  obtain ⟨v4, r4, rfl, h4⟩ := vs_cons r3 h3
  obtain rfl := List.eq_nil_of_length_eq_zero h4
  exact ⟨v0, v1, v2, v3, v4, rfl⟩
theorem vs_8 (vs : List Value) (h : vs.length = 8) : ∃ v0 v1 v2 v3 v4 v5 v6 v7, vs = [v0, v1, v2, v3, v4, v5, v6, v7] := by
  obtain ⟨v0, r0, rfl, h0⟩ := vs_cons vs h
  obtain ⟨v1, r1, rfl, h1⟩ := vs_cons r0 h0
  obtain ⟨v2, r2, rfl, h2⟩ := vs_cons r1 h1
  obtain ⟨v3, r3, rfl, h3⟩ := vs_cons r2 h2
  obtain ⟨v4, r4, rfl, h4⟩ := vs_cons r3 h3
  obtain ⟨v5, r5, rfl, h5⟩ := vs_cons r4 h4
  obtain ⟨v6, r6, rfl, h6⟩ := vs_cons r5 h5
  obtain ⟨v7, r7, rfl, h7⟩ := vs_cons r6 h6
  obtain rfl := List.eq_nil_of_length_eq_zero h7
  exact ⟨v0, v1, v2, v3, v4, v5, v6, v7, rfl⟩

theorem index_lv (z : Int) (w : World) (h0 : 0 ≤ z) (h4 : z < 4) : (Instr.index 45 (.agg lvls) (.int .i64 z)).run Try.prog w = .ok (.int .u8 (B.lb z : Nat)) w := by
  have : z = 0 ∨ z = 1 ∨ z = 2 ∨ z = 3 := by omega
  rcases this with rfl | rfl | rfl | rfl
  · have : ∀ w : World, (Instr.index 45 (.agg lvls) (.int .i64 0)).run Try.prog w = .ok (.int .u8 (B.lb 0 : Nat)) w := fun w => by kernel_rfl
    exact this w
  · have : ∀ w : World, (Instr.index 45 (.agg lvls) (.int .i64 1)).run Try.prog w = .ok (.int .u8 (B.lb 1 : Nat)) w := fun w => by kernel_rfl
    exact this w
  · have : ∀ w : World, (Instr.index 45 (.agg lvls) (.int .i64 2)).run Try.prog w = .ok (.int .u8 (B.lb 2 : Nat)) w := fun w => by kernel_rfl
    exact this w
  · have : ∀ w : World, (Instr.index 45 (.agg lvls) (.int .i64 3)).run Try.prog w = .ok (.int .u8 (B.lb 3 : Nat)) w := fun w => by kernel_rfl
    exact this w
theorem nb_append (a b : List Nat) : nb a ++ nb b = nb (a ++ b) := by
  unfold nb
  apply ByteArray.ext
  rw [ByteArray.data_append]
  simp
theorem nb_size (l : List Nat) : (nb l).size = l.length := by
  show (nb l).data.size = _
  simp [nb]
theorem one_string (b : Nat) (hb : b < 256) (r : Nat) (w : World) (h : w.heap[r]? = some (.cells #[.int .u8 (b : Nat)] 5 (0, 0))) : (convert 47 9 (.slice (some ⟨r, 0, none⟩) 1 1)).run Try.prog w = .ok (.string (nb [b])) w :=
  run_convert_bytes_back (P := Try.prog) w 47 9 5 ⟨r, 0, none⟩ 1 [UInt8.ofNat b] Try.underlying47 Try.underlying5 Try.underlying9 (fun j hj => by
    obtain rfl : j = 0 := by simpa using hj
    rw [Addr.add_lit, cell_of_row w r _ _ _ (0, 0) h]
    simp
    omega)
def kd (z : Int) (n : Nat) : Int := if B.errN z n = 0 then 130 else 0

set_option maxHeartbeats 8000000 in
theorem enc_any (z : Int) (n : Nat) (w : World) (hn : n < 2 ^ 240) :
    Calls Try.prog 6 #[.agg (L.lv z n)] w fun e w' => e = .returned (.tuple #[.agg (opv (kd z n) (B.str z n)), .int .i64 (B.errN z n : Nat)]) ∧ Below w.heap.size w w' := by
  have hb0 : Below w.heap.size w ((w.alloc (.cells (L.lv z n) 25)).alloc (.cells #[.int .i64 0, .string ⟨#[]⟩] 27)) := ((Below.refl _ w).alloc (Nat.le_refl _) _).alloc (by simp) _
  have HB := Lib.hid ((LabAt.new w z n).alloc (.cells #[.int .i64 0, .string ⟨#[]⟩] 27))
  have HO : Hid (OptAt ((w.alloc (.cells (L.lv z n) 25)).alloc (.cells #[.int .i64 0, .string ⟨#[]⟩] 27)) (w.heap.size + 1) 0 ⟨#[]⟩) := Lib.hid (by have := OptAt.new (w.alloc (.cells (L.lv z n) 25)) 0 ⟨#[]⟩; simpa using this)
  obtain ⟨E, hE⟩ : ∃ E, B.errN z n = E := ⟨_, rfl⟩
  obtain ⟨S, hS⟩ : ∃ S, B.str z n = S := ⟨_, rfl⟩
  obtain ⟨K, hK⟩ : ∃ K, kd z n = K := ⟨_, rfl⟩
  have HE := Lib.hid hE
  have HS := Lib.hid hS
  have HK := Lib.hid hK
  rw [hE, hS, hK]
  clear hE hS hK
  go_enter Try.func6, Try.ntmps6
  have hz0 := hb0.size
  have zB := HB.out.lt
  have zO := HO.out.lt
  have HR : Hid (Calls Try.prog 15 #[.slice (some ⟨w.heap.size + 1 + 1, 0, none⟩) 1 1] (((w.alloc (.cells (L.lv z n) 25)).alloc (.cells #[.int .i64 0, .string ⟨#[]⟩] 27)).alloc (.cells (labsX [(z, n)]) 25)) fun e w' => e = .returned (.bool (decide (0 ≤ z) && decide (z ≤ 255))) ∧ Below (((w.alloc (.cells (L.lv z n) 25)).alloc (.cells #[.int .i64 0, .string ⟨#[]⟩] 27)).alloc (.cells (labsX [(z, n)]) 25)).heap.size (((w.alloc (.cells (L.lv z n) 25)).alloc (.cells #[.int .i64 0, .string ⟨#[]⟩] 27)).alloc (.cells (labsX [(z, n)]) 25)) w') := Lib.hid (right_one z n (w.heap.size + 1 + 1) _ (by have := heap_alloc_new ((w.alloc (.cells (L.lv z n) 25)).alloc (.cells #[.int .i64 0, .string ⟨#[]⟩] 27)) (.cells (labsX [(z, n)]) 25); simpa [labsX_one] using this))
  go_wp2_with (first | (refine load_lab rfl rfl rfl HB.out ?_) | (refine step_op rfl (run_op_labs [(z, n)] rfl (by simp [Act.eval, Act.put, labV]) rfl (by simp) (by simp)) ?_))
  refine HR.out.mono ?_
  rintro e w1 ⟨rfl, hb1⟩
  have hb01 : Below ((w.alloc (.cells (L.lv z n) 25)).alloc (.cells #[.int .i64 0, .string ⟨#[]⟩] 27)).heap.size ((w.alloc (.cells (L.lv z n) 25)).alloc (.cells #[.int .i64 0, .string ⟨#[]⟩] 27)) w1 := ((Below.refl _ _).alloc (Nat.le_refl _) _).trans (hb1.mono (by simp))
  have HB1 := Lib.hid (HB.out.below hb01 zB)
  have HO1 := Lib.hid (HO.out.below hb01 zO)
  have hbw1 := hb0.trans (hb01.mono hz0)
  have hz1 := hbw1.size
  clear hb1 hb01 HB HO HR hb0 zB zO hz0
  by_cases hr : 0 ≤ z ∧ z ≤ 255
  · rw [decide_eq_true hr.1, decide_eq_true hr.2]
    go_wp2_with (refine load_lab rfl rfl rfl HB1.out ?_)
    refine (BsFits.fits_any z n _).mono ?_
    rintro e w2 ⟨rfl, hb2⟩
    have hbw2 := hbw1.trans (hb2.mono hz1)
    have HB2 := Lib.hid (HB1.out.below hb2 HB1.out.lt)
    have HO2 := Lib.hid (HO1.out.below hb2 HO1.out.lt)
    clear hb2 HB1 HO1 hbw1 hz1
    cases hf : B.fits z n
    · have GE : Hid (B.errN z n = 5) := Lib.hid (by unfold B.errN; rw [if_pos hr, hf]; rfl)
      have GS : Hid (B.str z n = ⟨#[]⟩) := Lib.hid (by unfold B.str; rw [GE.out]; rfl)
      have GK : Hid (kd z n = 0) := Lib.hid (by unfold kd; rw [GE.out]; rfl)
      go_wp2_with (refine store_opt rfl rfl rfl rfl HO2.out ?_; intro w3 hs ho; have HO3 := Lib.hid hs; have ho3 := Lib.hid ho; clear hs ho)
      exact ret_opt_tmp rfl rfl rfl rfl HO3.out ⟨by rw [← HE.out, ← HS.out, ← HK.out, GE.out, GS.out, GK.out]; rfl, hbw2.trans (ho3.out.below (by omega))⟩
    · have hz4 : 0 ≤ z ∧ z < 4 ∧ C.mostTo n 240 ≤ 27 := by
        unfold B.fits at hf
        simpa [Bool.and_eq_true, decide_eq_true_eq] using hf
      have GE : Hid (B.errN z n = 0) := Lib.hid (by unfold B.errN; rw [if_pos hr, hf]; rfl)
      have GS : Hid (B.str z n = nb (B.lb z :: B.au n)) := Lib.hid (by unfold B.str; rw [GE.out]; rfl)
      have GK : Hid (kd z n = 130) := Lib.hid (by unfold kd; rw [GE.out]; rfl)
      have HIX := Lib.hid (fun w => index_lv z w hz4.1 hz4.2.1)
      have HT := Lib.hid (fun w => auth_any n w hn hz4.2.2)
      have hbz := B.lb_lt z
      have HCV := Lib.hid (fun r w h => one_string (B.lb z) hbz r w h)
      have HAD : Hid (nb [B.lb z] ++ nb (B.au n) = nb (B.lb z :: B.au n)) := Lib.hid (by rw [nb_append]; rfl)
      have hs1 : (nb [B.lb z]).size = 1 := nb_size _
      have hs2 : (nb (B.au n)).size ≤ 4 := by rw [nb_size]; unfold B.au; rw [List.length_map, List.length_range]; exact B.len_le n hz4.2.2
      have HSZ : Hid (1 + (nb (B.au n)).size ≤ 9223372036854775807) := Lib.hid (by omega)
      have hz0 : 0 ≤ z := hz4.1
      have hz5 : z < 4 := hz4.2.1
      generalize B.lb z = bz at *
      generalize nb (bz :: B.au n) = d at *
      generalize nb (B.au n) = t at *
      clear hz4 hf hr
      go_wp2
      have HB := HB2
      generalize w2 = W2 at *
      refine region_gen (VG W2.heap.size [.val (.agg lvls), .val (.pointer (some ⟨w.heap.size, 0, none⟩)), .val (.int .i64 z), .val (.int .u8 (bz : Nat)), .val (.int .u8 (bz : Nat))]) (BS W2) (by kernel_rfl) (by kernel_rfl) (Below.refl _ _).drew ⟨?_, ?_, ?_, ?_, ?_, trivial⟩ ?_
      · go_light; intro listed a' w' hs hS hun hdep
        refine g_call 16 #[] hS rfl ?_ ?_
        · have hcn := BigFrame.eval_const a'; have hfn := BigFrame.eval_func a'; clear hs hdep; generalize a'.eval = ev at *; go_simp
        · exact c_val (levels_any w') rfl
      · go_light; intro listed a' w' hs hS hun hdep
        have e1 : a'.eval (.tmp 1) = .pointer (some ⟨w.heap.size, 0, none⟩) := (hs.out 1 (by kernel_rfl)).trans (rfl)
        refine g_val (.pointer (some ⟨w.heap.size, 0, none⟩)) hS rfl ?_ rfl
        have hcn := BigFrame.eval_const a'
        have hfn := BigFrame.eval_func a'
        clear hs hdep
        generalize a'.eval = ev at *
        go_simp
      · go_light; intro listed a' w' hs hS hun hdep
        have e15 : a'.eval (.tmp 15) = .pointer (some ⟨w.heap.size, 0, none⟩) := hs.eval 1 _ 15 rfl (hdep ⟨1, .data⟩ (by simp) rfl) rfl
        have hc := (HB.out.below hS HB.out.lt).level
        refine g_val (.int .i64 z) hS rfl ?_ rfl
        have hcn := BigFrame.eval_const a'
        have hfn := BigFrame.eval_func a'
        clear hs hdep
        generalize a'.eval = ev at *
        go_simp
      · go_light; intro listed a' w' hs hS hun hdep
        have e14 : a'.eval (.tmp 14) = .agg lvls := hs.eval 0 _ 14 rfl (hdep ⟨0, .data⟩ (by simp) rfl) rfl
        have e16 : a'.eval (.tmp 16) = .int .i64 z := hs.eval 2 _ 16 rfl (hdep ⟨2, .data⟩ (by simp) rfl) rfl
        have hix := HIX.out w'
        refine g_val (.int .u8 (bz : Nat)) hS rfl ?_ rfl
        have hcn := BigFrame.eval_const a'
        have hfn := BigFrame.eval_func a'
        clear hs hdep
        generalize a'.eval = ev at *
        go_simp
      · go_light; intro listed a' w' hs hS hun hdep
        have e17 : a'.eval (.tmp 17) = .int .u8 (bz : Nat) := hs.eval 3 _ 17 rfl (hdep ⟨3, .data⟩ (by simp) rfl) rfl
        refine g_val (.int .u8 (bz : Nat)) hS rfl ?_ rfl
        have hcn := BigFrame.eval_const a'
        have hfn := BigFrame.eval_func a'
        clear hs hdep
        generalize a'.eval = ev at *
        go_simp
      · intro vs W1 hlen hV listed hall hS
        obtain ⟨v0, v1, v2, v3, v4, rfl⟩ := vs_5 vs (hlen.trans rfl)
        have q0 : v0 = .agg lvls := hV 0 _ rfl
        have q1 : v1 = .pointer (some ⟨w.heap.size, 0, none⟩) := hV 1 _ rfl
        have q2 : v2 = .int .i64 z := hV 2 _ rfl
        have q3 : v3 = .int .u8 (bz : Nat) := hV 3 _ rfl
        have q4 : v4 = .int .u8 (bz : Nat) := hV 4 _ rfl
        have hbel : Below W2.heap.size W2 W1 := hS
        subst q0 q1 q2 q3 q4
        clear hV hS hall
        simp only [lays, Act.put, List.setIfInBounds_toArray, List.set_cons_zero, List.set_cons_succ]
        have HB' := Lib.hid (HB.out.below hbel HB.out.lt)
        have HO3 := Lib.hid (HO2.out.below hbel HO2.out.lt)
        have hbw3 := hbw2.trans (hbel.mono hbw2.size)
        clear HB HB2 HO2 hbw2 hbel HIX
        have HB := HB'
        clear HB'
        go_wp2
        refine region_gen_tail 8 (VG W1.heap.size [.val (.int .u8 (bz : Nat)), .row (#[.int .u8 (bz : Nat)]) 5 1, .val (.string (nb [bz])), .val (.pointer (some ⟨w.heap.size, 1, none⟩)), .val (.agg (C.cv n)), .val (.string t), .val (.string d), .val (.agg #[.int .i64 130, .string d])]) (BS W1) (by kernel_rfl) (by kernel_rfl) (by kernel_rfl) (Below.refl _ _).drew ⟨?_, ?_, ?_, ?_, ?_, ?_, ?_, ?_, trivial⟩ ?_
        · go_light; intro listed a' w' hs hS hun hdep
          have e4 : a'.eval (.tmp 4) = .int .u8 (bz : Nat) := (hs.out 4 (by kernel_rfl)).trans (rfl)
          refine g_val (.int .u8 (bz : Nat)) hS rfl ?_ rfl
          have hcn := BigFrame.eval_const a'
          have hfn := BigFrame.eval_func a'
          clear hs hdep
          generalize a'.eval = ev at *
          go_simp
        · go_light; intro listed a' w' hs hS hun hdep
          have e18 : a'.eval (.tmp 18) = .int .u8 (bz : Nat) := hs.eval 0 _ 18 rfl (hdep ⟨0, .data⟩ (by simp) rfl) rfl
          refine g_new (.slice (some ⟨w'.heap.size, 0, none⟩) 1 1) (.cells #[.int .u8 (bz : Nat)] 5) hS rfl ?_ ⟨w'.heap.size, Below.size hS, rfl, heap_alloc_new w' _⟩
          have hcn := BigFrame.eval_const a'
          have hfn := BigFrame.eval_func a'
          clear hs hdep
          generalize a'.eval = ev at *
          go_simp
        · go_light; intro listed a' w' hs hS hun hdep
          have r19 : (.row (#[.int .u8 (bz : Nat)]) 5 1 : GV).ok W1.heap.size (a'.eval (.tmp 19)) w' := hs.eval 1 _ 19 rfl (hdep ⟨1, .data⟩ (by simp) rfl)  rfl
          obtain ⟨b19, _, e19, k19⟩ := r19
          have hcv := HCV.out b19 w' k19
          refine g_val (.string (nb [bz])) hS rfl ?_ rfl
          have hcn := BigFrame.eval_const a'
          have hfn := BigFrame.eval_func a'
          clear hs hdep
          generalize a'.eval = ev at *
          go_simp
        · go_light; intro listed a' w' hs hS hun hdep
          have e1 : a'.eval (.tmp 1) = .pointer (some ⟨w.heap.size, 0, none⟩) := (hs.out 1 (by kernel_rfl)).trans (rfl)
          refine g_val (.pointer (some ⟨w.heap.size, 1, none⟩)) hS rfl ?_ rfl
          have hcn := BigFrame.eval_const a'
          have hfn := BigFrame.eval_func a'
          clear hs hdep
          generalize a'.eval = ev at *
          go_simp
        · go_light; intro listed a' w' hs hS hun hdep
          have e21 : a'.eval (.tmp 21) = .pointer (some ⟨w.heap.size, 1, none⟩) := hs.eval 3 _ 21 rfl (hdep ⟨3, .data⟩ (by simp) rfl) rfl
          exact g_val (.agg (C.cv n)) hS rfl (run_op_load_labcats rfl e21 (HB.out.below hS HB.out.lt)) rfl
        · go_light; intro listed a' w' hs hS hun hdep
          have e22 : a'.eval (.tmp 22) = .agg (C.cv n) := hs.eval 4 _ 22 rfl (hdep ⟨4, .data⟩ (by simp) rfl) rfl
          refine g_call 17 #[.agg (C.cv n)] hS rfl ?_ ?_
          · have hcn := BigFrame.eval_const a'; have hfn := BigFrame.eval_func a'; clear hs hdep; generalize a'.eval = ev at *; go_simp
          · exact c_val (HT.out w') rfl
        · go_light; intro listed a' w' hs hS hun hdep
          have e20 : a'.eval (.tmp 20) = .string (nb [bz]) := hs.eval 2 _ 20 rfl (hdep ⟨2, .data⟩ (by simp) rfl) rfl
          have e23 : a'.eval (.tmp 23) = .string t := hs.eval 5 _ 23 rfl (hdep ⟨5, .data⟩ (by simp) rfl) rfl
          have had := HAD.out
          have hsz := HSZ.out
          refine g_val (.string d) hS rfl ?_ rfl
          have hcn := BigFrame.eval_const a'
          have hfn := BigFrame.eval_func a'
          clear hs hdep
          generalize a'.eval = ev at *
          go_simp
        · go_light; intro listed a' w' hs hS hun hdep
          have e24 : a'.eval (.tmp 24) = .string d := hs.eval 6 _ 24 rfl (hdep ⟨6, .data⟩ (by simp) rfl) rfl
          refine g_val (.agg #[.int .i64 130, .string d]) hS rfl ?_ rfl
          have hcn := BigFrame.eval_const a'
          have hfn := BigFrame.eval_func a'
          clear hs hdep
          generalize a'.eval = ev at *
          go_simp
        · intro vs W3 hlen hV hS
          obtain ⟨v0, v1, v2, v3, v4, v5, v6, v7, rfl⟩ := vs_8 vs (hlen.trans rfl)
          have q0 : v0 = .int .u8 (bz : Nat) := hV 0 _ rfl
          obtain ⟨b1, hge1, q1, hbk1⟩ : (.row (#[.int .u8 (bz : Nat)]) 5 1 : GV).ok W1.heap.size v1 W3 := hV 1 _ rfl
          have q2 : v2 = .string (nb [bz]) := hV 2 _ rfl
          have q3 : v3 = .pointer (some ⟨w.heap.size, 1, none⟩) := hV 3 _ rfl
          have q4 : v4 = .agg (C.cv n) := hV 4 _ rfl
          have q5 : v5 = .string t := hV 5 _ rfl
          have q6 : v6 = .string d := hV 6 _ rfl
          have q7 : v7 = .agg #[.int .i64 130, .string d] := hV 7 _ rfl
          have hbel : Below W1.heap.size W1 W3 := hS
          subst q0 q1 q2 q3 q4 q5 q6 q7
          clear hV hS
          simp only [lays, Act.put, List.setIfInBounds_toArray, List.set_cons_zero, List.set_cons_succ, List.drop_succ_cons, List.drop_zero, List.take_succ_cons, List.take_zero]
          have HO4 := Lib.hid (HO3.out.below hbel HO3.out.lt)
          have hbw4 := hbw3.trans (hbel.mono hbw3.size)
          clear HO3 hbw3 hbel HB
          go_wp2_with (refine store_opt rfl rfl rfl rfl HO4.out ?_; intro w5 hs ho; have HO5 := Lib.hid hs; have ho5 := Lib.hid ho; clear hs ho)
          exact ret_opt_tmp rfl rfl rfl rfl HO5.out ⟨by rw [← HE.out, ← HS.out, ← HK.out, GE.out, GS.out, GK.out]; rfl, hbw4.trans (ho5.out.below (by omega))⟩
  · have hr' : (decide (0 ≤ z) && decide (z ≤ 255)) = false := by
      by_cases h : 0 ≤ z
      · rw [decide_eq_false (show ¬ z ≤ 255 from fun h2 => hr ⟨h, h2⟩), Bool.and_false]
      · rw [decide_eq_false h, Bool.false_and]
    rw [hr']
    have GE : Hid (B.errN z n = 1) := Lib.hid (by unfold B.errN; rw [if_neg hr])
    have GS : Hid (B.str z n = ⟨#[]⟩) := Lib.hid (by unfold B.str; rw [GE.out]; rfl)
    have GK : Hid (kd z n = 0) := Lib.hid (by unfold kd; rw [GE.out]; rfl)
    clear hr hr'
    go_wp2_with (refine store_opt rfl rfl rfl rfl HO1.out ?_; intro w3 hs ho; have HO3 := Lib.hid hs; have ho3 := Lib.hid ho; clear hs ho)
    exact ret_opt_tmp rfl rfl rfl rfl HO3.out ⟨by rw [← HE.out, ← HS.out, ← HK.out, GE.out, GS.out, GK.out]; rfl, hbw1.trans (ho3.out.below (by omega))⟩
#print axioms enc_any
end BsEnc
end Go.Proofs.Ytmaddfjgiflkbaa
