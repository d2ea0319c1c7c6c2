/- The walk of LabelOrders. -/
import Derived.Test.YtmaddfjgiflkbaaDoorLbAwake
import Derived.Test.YtmaddfjgiflkbaaDoorLbCmp
import Derived.Test.YtmaddfjgiflkbaaDoorCtGen2
import Derived.Deep.DeepCutAuto
import Derived.Deep.CutBlock
import Derived.Deep.Light
import Derived.BigQuiet
namespace Go.Proofs.YtmaddfjgiflkbaaDoor
set_option maxRecDepth 100000
open Go.RowKit
set_option maxRecDepth 100000
set_option linter.unusedVariables false
namespace LbOr
theorem vs_cons {n : Nat} (vs : List Value) (h : vs.length = n + 1) : ∃ v r, vs = v :: r ∧ r.length = n := by
  cases vs with
  | nil => simp at h
  | cons v r => exact ⟨v, r, rfl, by simpa using h⟩
theorem vs_44 (vs : List Value) (h : vs.length = 44) : ∃ v0 v1 v2 v3 v4 v5 v6 v7 v8 v9 v10 v11 v12 v13 v14 v15 v16 v17 v18 v19 v20 v21 v22 v23 v24 v25 v26 v27 v28 v29 v30 v31 v32 v33 v34 v35 v36 v37 v38 v39 v40 v41 v42 v43, vs = [v0, v1, v2, v3, v4, v5, v6, v7, v8, v9, v10, v11, v12, v13, v14, v15, v16, v17, v18, v19, v20, v21, v22, v23, v24, v25, v26, v27, v28, v29, v30, v31, v32, v33, v34, v35, v36, v37, v38, v39, v40, v41, v42, v43] := by
  obtain ⟨v0, r0, rfl, h0⟩ := vs_cons vs h
  obtain ⟨v1, r1, rfl, h1⟩ := vs_cons r0 h0
  obtain ⟨v2, r2, rfl, h2⟩ := vs_cons r1 h1
  obtain ⟨v3, r3, rfl, h3⟩ := vs_cons r2 h2
  obtain ⟨v4, r4, rfl, h4⟩ := vs_cons r3 h3
  obtain ⟨v5, r5, rfl, h5⟩ := vs_cons r4 h4
  obtain ⟨v6, r6, rfl, h6⟩ := vs_cons r5 h5
  obtain ⟨v7, r7, rfl, h7⟩ := vs_cons r6 h6
  obtain ⟨v8, r8, rfl, h8⟩ := vs_cons r7 h7
  obtain ⟨v9, r9, rfl, h9⟩ := vs_cons r8 h8
  obtain ⟨v10, r10, rfl, h10⟩ := vs_cons r9 h9
  obtain ⟨v11, r11, rfl, h11⟩ := vs_cons r10 h10
  obtain ⟨v12, r12, rfl, h12⟩ := vs_cons r11 h11
  obtain ⟨v13, r13, rfl, h13⟩ := vs_cons r12 h12
  obtain ⟨v14, r14, rfl, h14⟩ := vs_cons r13 h13
  obtain ⟨v15, r15, rfl, h15⟩ := vs_cons r14 h14
  obtain ⟨v16, r16, rfl, h16⟩ := vs_cons r15 h15
  obtain ⟨v17, r17, rfl, h17⟩ := vs_cons r16 h16
  obtain ⟨v18, r18, rfl, h18⟩ := vs_cons r17 h17
  obtain ⟨v19, r19, rfl, h19⟩ := vs_cons r18 h18
  obtain ⟨v20, r20, rfl, h20⟩ := vs_cons r19 h19
  obtain ⟨v21, r21, rfl, h21⟩ := vs_cons r20 h20
  obtain ⟨v22, r22, rfl, h22⟩ := vs_cons r21 h21
  obtain ⟨v23, r23, rfl, h23⟩ := vs_cons r22 h22
  obtain ⟨v24, r24, rfl, h24⟩ := vs_cons r23 h23
  obtain ⟨v25, r25, rfl, h25⟩ := vs_cons r24 h24
  obtain ⟨v26, r26, rfl, h26⟩ := vs_cons r25 h25
  obtain ⟨v27, r27, rfl, h27⟩ := vs_cons r26 h26
  obtain ⟨v28, r28, rfl, h28⟩ := vs_cons r27 h27
  obtain ⟨v29, r29, rfl, h29⟩ := vs_cons r28 h28
  obtain ⟨v30, r30, rfl, h30⟩ := vs_cons r29 h29
  obtain ⟨v31, r31, rfl, h31⟩ := vs_cons r30 h30
  obtain ⟨v32, r32, rfl, h32⟩ := vs_cons r31 h31
  obtain ⟨v33, r33, rfl, h33⟩ := vs_cons r32 h32
  obtain ⟨v34, r34, rfl, h34⟩ := vs_cons r33 h33
  obtain ⟨v35, r35, rfl, h35⟩ := vs_cons r34 h34
  obtain ⟨v36, r36, rfl, h36⟩ := vs_cons r35 h35
  obtain ⟨v37, r37, rfl, h37⟩ := vs_cons r36 h36
  obtain ⟨v38, r38, rfl, h38⟩ := vs_cons r37 h37
  obtain ⟨v39, r39, rfl, h39⟩ := vs_cons r38 h38
  obtain ⟨v40, r40, rfl, h40⟩ := vs_cons r39 h39
  obtain ⟨v41, r41, rfl, h41⟩ := vs_cons r40 h40
  obtain ⟨v42, r42, rfl, h42⟩ := vs_cons r41 h41
  obtain ⟨v43, r43, rfl, h43⟩ := vs_cons r42 h42
  obtain rfl := List.eq_nil_of_length_eq_zero h43
  exact ⟨v0, v1, v2, v3, v4, v5, v6, v7, v8, v9, v10, v11, v12, v13, v14, v15, v16, v17, v18, v19, v20, v21, v22, v23, v24, v25, v26, v27, v28, v29, v30, v31, v32, v33, v34, v35, v36, v37, v38, v39, v40, v41, v42, v43, rfl⟩

theorem hi_ne (n m k : Nat) (h : C.cmpN (C.hi n k) (C.hi m k) ≠ 0) : C.cmpN n m = C.cmpN (C.hi n k) (C.hi m k) := by
  unfold C.cmpN at *
  by_cases h1 : C.hi n k < C.hi m k
  · rw [if_pos h1, if_pos (C.hi_lt h1)]
  · rw [if_neg h1] at h ⊢
    by_cases h2 : C.hi m k < C.hi n k
    · have := C.hi_lt h2
      rw [if_pos h2, if_neg (by omega), if_pos this]
    · rw [if_neg h2] at h; exact absurd rfl h
theorem hi_eq (n m k : Nat) (h : C.cmpN (C.hi n k) (C.hi m k) = 0) : C.hi n k = C.hi m k := by
  unfold C.cmpN at h
  split at h
  · cases h
  · split at h
    · cases h
    · omega
theorem hi_next (n m k : Nat) (hk : k < 30) (h : C.cmpN (C.hi n k) (C.hi m k) = 0) : C.cmpN (C.hi n (k + 1)) (C.hi m (k + 1)) = C.cmpN (C.byte n k) (C.byte m k) := by
  have e := hi_eq n m k h
  rw [C.hi_succ n k hk, C.hi_succ m k hk, e]
  unfold C.cmpN
  by_cases h1 : C.byte n k < C.byte m k
  · rw [if_pos h1, if_pos (by omega)]
  · rw [if_neg h1, if_neg (by omega)]
    by_cases h2 : C.byte m k < C.byte n k
    · rw [if_pos h2, if_pos (by omega)]
    · rw [if_neg h2, if_neg (by omega)]

set_option maxHeartbeats 16000000 in
theorem orders_all (za : Int) (na : Nat) (zb : Int) (nb : Nat) (zc : Int) (nc : Nat) (w : World) (hna : na < 2 ^ 240) (hnb : nb < 2 ^ 240) (hnc : nc < 2 ^ 240) (Ld : LaidF w) :
    Calls Tryd.prog 5 #[.agg (L.lv za na), .agg (L.lv zb nb), .agg (L.lv zc nc)] w fun e w' => e = .returned (.bool true) ∧ Below w.heap.size w w' := by
  have HA := Lib.hid (((LabAt.new w za na).alloc (.cells (L.lv zb nb) 39)).alloc (.cells (L.lv zc nc) 39))
  have HB : Hid (LabAt (((w.alloc (.cells (L.lv za na) 39)).alloc (.cells (L.lv zb nb) 39)).alloc (.cells (L.lv zc nc) 39)) (w.heap.size + 1) zb nb) := Lib.hid (by have := (LabAt.new (w.alloc (.cells (L.lv za na) 39)) zb nb).alloc (.cells (L.lv zc nc) 39); simpa using this)
  have HC : Hid (LabAt (((w.alloc (.cells (L.lv za na) 39)).alloc (.cells (L.lv zb nb) 39)).alloc (.cells (L.lv zc nc) 39)) (w.heap.size + 1 + 1) zc nc) := Lib.hid (by have := LabAt.new ((w.alloc (.cells (L.lv za na) 39)).alloc (.cells (L.lv zb nb) 39)) zc nc; simpa using this)
  have hb0 : Below w.heap.size w (((w.alloc (.cells (L.lv za na) 39)).alloc (.cells (L.lv zb nb) 39)).alloc (.cells (L.lv zc nc) 39)) := (((Below.refl _ w).alloc (Nat.le_refl _) _).alloc (by simp) _).alloc (by simp; omega) _
  have HL0 := Lib.hid (Ld.below hb0)
  clear Ld
  go_enter Tryd.func5, Tryd.ntmps5
  go_upto_block 0 with fail
  generalize hW0 : ((w.alloc (.cells (L.lv za na) 39)).alloc (.cells (L.lv zb nb) 39)).alloc (.cells (L.lv zc nc) 39) = W0 at *
  clear hW0
  go_cut [7] (fun v wr => v = .int .i64 (C.cmpN na nb) ∧ Below W0.heap.size W0 wr)
  case first =>
    have H0 := Lib.hid (show C.cmpN (C.hi na 0) (C.hi nb 0) = 0 by rw [C.hi_zero na hna, C.hi_zero nb hnb]; rfl)
    go_wp2_with fail
    go_loopw [7, 8] (fun v i wr => ∃ k : Nat, k ≤ 30 ∧ i = .int .i64 k ∧ v = .int .i64 (C.cmpN (C.hi na k) (C.hi nb k)) ∧ Below W0.heap.size W0 wr) (fun _ i _ => 30 - (intOf i).toNat)
    case atStart => exact ⟨0, Nat.zero_le _, rfl, by rw [H0.out], Below.refl _ _⟩
    case round =>
      obtain ⟨k, hk, rfl, rfl, hb⟩ := hrel
      by_cases hlt : k < 30
      · have hlt' : (k : Int) < 30 := by omega
        have HE := Lib.hid (hi_ne na nb k)
        have HX := Lib.hid (hi_next na nb k hlt)
        generalize C.cmpN (C.hi na k) (C.hi nb k) = v at *
        by_cases hv : v = 0
        · have HX1 := Lib.hid (HX.out hv)
          subst hv
          have q1 := (HA.out.below hb HA.out.lt).byte k hlt
          have q2 := (HB.out.below hb HB.out.lt).byte k hlt
          have b1 := C.byte_lt na k
          have b2 := C.byte_lt nb k
          have HB1 := Lib.hid hb
          clear HE HX hb H0
          generalize C.byte na k = x at *
          generalize C.byte nb k = y at *
          go_wp2
          by_cases h1 : x < y
          · have HU := Lib.hid (show C.cmpN (C.hi na (k + 1)) (C.hi nb (k + 1)) = -1 by rw [HX1.out]; unfold C.cmpN; rw [if_pos h1])
            have h1' : (x : Int) < (y : Int) := by omega
            have h2' : ¬ (y : Int) < (x : Int) := by omega
            clear HX1 h1
            go_quiet (fail)
            go_wp2
            go_quiet (fail)
            go_wp2
            go_roundw
            case rel => exact ⟨k + 1, by omega, by go_num, by rw [HU.out], below_drewN HB1.out _⟩
            case measure => simp [intOf]; omega
          · by_cases h2 : y < x
            · have HU := Lib.hid (show C.cmpN (C.hi na (k + 1)) (C.hi nb (k + 1)) = 1 by rw [HX1.out]; unfold C.cmpN; rw [if_neg h1, if_pos h2])
              have h1' : ¬ (x : Int) < (y : Int) := by omega
              have h2' : (y : Int) < (x : Int) := by omega
              clear HX1 h1 h2
              go_quiet (fail)
              go_wp2
              go_quiet (fail)
              go_wp2
              go_roundw
              case rel => exact ⟨k + 1, by omega, by go_num, by rw [HU.out], below_drewN HB1.out _⟩
              case measure => simp [intOf]; omega
            · have HU := Lib.hid (show C.cmpN (C.hi na (k + 1)) (C.hi nb (k + 1)) = 0 by rw [HX1.out]; unfold C.cmpN; rw [if_neg h1, if_neg h2])
              have h1' : ¬ (x : Int) < (y : Int) := by omega
              have h2' : ¬ (y : Int) < (x : Int) := by omega
              clear HX1 h1 h2
              go_quiet (fail)
              go_wp2
              go_quiet (fail)
              go_wp2
              go_roundw
              case rel => exact ⟨k + 1, by omega, by go_num, by rw [HU.out], below_drewN HB1.out _⟩
              case measure => simp [intOf]; omega
        · have HV := Lib.hid (HE.out hv)
          have hv' : (v == 0) = false := by rw [beq_eq_false_iff_ne]; exact hv
          clear HE HX H0
          go_wp2
          go_meet
          exact ⟨by rw [HV.out], hb⟩
      · obtain rfl : k = 30 := by omega
        clear H0
        rw [C.hi_all, C.hi_all]
        go_wp2
        go_meet
        exact ⟨rfl, hb⟩
  obtain ⟨rfl, hbc⟩ := hcut
  have HA1 := Lib.hid (HA.out.below hbc HA.out.lt)
  have HB1 := Lib.hid (HB.out.below hbc HB.out.lt)
  have HC1 := Lib.hid (HC.out.below hbc HC.out.lt)
  have HL := Lib.hid (HL0.out.below hbc)
  have hbw := hb0.trans (hbc.mono hb0.size)
  clear HA HB HC HL0 hbc hb0
  have HA := HA1
  have HB := HB1
  have HC := HC1
  clear HA1 HB1 HC1
  have Hq0 : Hid ((if zb < za then (1 : Int) else if za < zb then -1 else C.cmpN na nb) = L.cmp za na zb nb) := Lib.hid (by
    unfold L.cmp L.cmpZ
    repeat' split
    all_goals omega)
  have HRR : Hid (L.rightL [(za, na), (zb, nb)] = (decide (0 ≤ za) && decide (za ≤ 255) && decide (0 ≤ zb) && decide (zb ≤ 255))) := Lib.hid (by
    unfold L.rightL
    simp [Bool.and_assoc])
  have Dab := Lib.hid (fun w => Dom_any za na zb nb w hna hnb)
  have Eab := Lib.hid (fun w => ldom_any za na zb nb w hnb)
  have Eba := Lib.hid (fun w => ldom_any zb nb za na w hna)
  have Ecb := Lib.hid (fun w => ldom_any zc nc zb nb w hnb)
  have HQ := Lib.hid (fun w => LCmp_any za na zb nb w hna hnb)
  have HI := Lib.hid (fun w => LIn_any zb nb za na zc nc w hnb hna hnc)
  have HRt := Lib.hid (fun (r : Nat) (w' : World) (h : w'.heap[r]? = some (.cells (labsX [(za, na), (zb, nb)]) 39 (0, 0))) => Right_any (some ⟨r, 0, none⟩) 2 [(za, na), (zb, nb)] w' (LRow.of_block h) (by simp))
  have HRn := Lib.hid (fun (w' : World) => Right_any none 0 [] w' (LRow.none w' none) (by simp))
  rw [show L.rightL [] = true from rfl] at HRn
  generalize L.dom za na zb nb = dab at *
  generalize L.dom zb nb za na = dba at *
  generalize L.dom zc nc zb nb = dcb at *
  generalize L.cmp za na zb nb = q at *
  generalize L.rightL [(za, na), (zb, nb)] = R at *
  generalize C.cmpN na nb = u at *
  generalize wc = W1 at *
  have l1 := HA.out.level
  have l2 := HB.out.level
  go_upto_if 40 with fail
  go_cut [7] (fun v wr => v = .int .i64 (if za < zb then -1 else u) ∧ wr = W1)
  case first =>
    by_cases h : za < zb
    · have G : Hid ((if za < zb then (-1 : Int) else u) = -1) := Lib.hid (if_pos h)
      have hd := decide_eq_true h
      go_wp2
      go_meet
      exact ⟨by first | rw [G.out] | simp [h], rfl⟩
    · have G : Hid ((if za < zb then (-1 : Int) else u) = u) := Lib.hid (if_neg h)
      have hd := decide_eq_false h
      go_wp2
      go_meet
      exact ⟨by first | rw [G.out] | simp [h], rfl⟩
  obtain ⟨rfl, rfl⟩ := hcut
  generalize (if za < zb then -1 else u) = u' at *
  go_upto_if 45 with fail
  go_cut [7] (fun v wr => v = .int .i64 q ∧ wr = wc)
  case first =>
    by_cases h : zb < za
    · have G : Hid (q = 1) := Lib.hid (by rw [← Hq0.out, if_pos h])
      have hd := decide_eq_true h
      clear Hq0
      go_wp2
      go_meet
      exact ⟨by rw [G.out], rfl⟩
    · have G : Hid (q = u') := Lib.hid (by rw [← Hq0.out, if_neg h])
      have hd := decide_eq_false h
      clear Hq0
      go_wp2
      go_meet
      exact ⟨by rw [G.out], rfl⟩
  obtain ⟨rfl, rfl⟩ := hcut
  clear Hq0
  go_upto_region 13 with fail
  go_cut [9] (fun v wr => v = .bool R ∧ wr = wc)
  case first =>
    by_cases h1 : 0 ≤ za
    · by_cases h2 : za ≤ 255
      · by_cases h3 : 0 ≤ zb
        · by_cases h4 : zb ≤ 255
          · have G : Hid (R = true) := Lib.hid (by rw [HRR.out]; simp [h1, h2, h3, h4])
            clear HRR
            go_wp2
            go_meet
            exact ⟨by rw [G.out], rfl⟩
          · have G : Hid (R = false) := Lib.hid (by rw [HRR.out]; simp [h1, h2, h3, h4])
            clear HRR
            go_wp2
            go_meet
            exact ⟨by rw [G.out], rfl⟩
        · have G : Hid (R = false) := Lib.hid (by rw [HRR.out]; simp [h1, h2, h3])
          clear HRR
          go_wp2
          go_meet
          exact ⟨by rw [G.out], rfl⟩
      · have G : Hid (R = false) := Lib.hid (by rw [HRR.out]; simp [h1, h2])
        clear HRR
        go_wp2
        go_meet
        exact ⟨by rw [G.out], rfl⟩
    · have G : Hid (R = false) := Lib.hid (by rw [HRR.out]; simp [h1])
      clear HRR
      go_wp2
      go_meet
      exact ⟨by rw [G.out], rfl⟩
  obtain ⟨rfl, rfl⟩ := hcut
  clear HRR l1 l2
  generalize wc = W1 at *
  go_wp2
  refine region_gen (VG W1.heap.size [.val (.agg (L.lv (za) (na))), .val (.agg (L.lv (zb) (nb))), .val (.bool dab), .val (.agg (L.lv (za) (na))), .val (.agg (L.lv (zb) (nb))), .val (.bool dab), .val (.bool true), .val (.bool true), .val (.agg (L.lv (za) (na))), .val (.agg (L.lv (zb) (nb))), .val (.int .i64 q), .val (.int .i64 q), .val (.bool true), .val (.bool true), .val (.bool true), .val (.agg (L.lv (zb) (nb))), .val (.agg (L.lv (za) (na))), .val (.agg (L.lv (zc) (nc))), .val (.bool (dba && dcb)), .val (.agg (L.lv (zb) (nb))), .val (.agg (L.lv (za) (na))), .val (.bool dba), .val (.bool dba), .val (if dba = true then .agg (L.lv (zc) (nc)) else undef), .val (if dba = true then .agg (L.lv (zb) (nb)) else undef), .val (if dba = true then .bool dcb else undef), .val (.bool (dba && dcb)), .val (.bool true), .val (.bool true), .val (.bool true), .val (.agg (L.lv (za) (na))), .val (.agg (L.lv (zb) (nb))), .row (labsX [(za, na), (zb, nb)]) 39 2, .val (.bool R), .val (.bool R), .val (.bool true), .val (.bool true), .val (.bool true), .val (.bool true), .val (.bool true), .val (.bool true), .val (.bool true), .val (.bool true), .val (.bool true)]) (BS W1) (by kernel_rfl) (by kernel_rfl) (Below.refl _ _).drew ⟨?_, ?_, ?_, ?_, ?_, ?_, ?_, ?_, ?_, ?_, ?_, ?_, ?_, ?_, ?_, ?_, ?_, ?_, ?_, ?_, ?_, ?_, ?_, ?_, ?_, ?_, ?_, ?_, ?_, ?_, ?_, ?_, ?_, ?_, ?_, ?_, ?_, ?_, ?_, ?_, ?_, ?_, ?_, ?_, trivial⟩ ?_
  · go_light; intro listed a' w' hs hS hun hdep
    have e3 : a'.eval (.tmp 3) = .pointer (some ⟨w.heap.size, 0, none⟩) := (hs.out 3 (by kernel_rfl)).trans (rfl)
    exact g_val (.agg (L.lv (za) (na))) hS rfl (run_op_load_lab rfl e3 (HA.out.below hS HA.out.lt)) rfl
  · go_light; intro listed a' w' hs hS hun hdep
    have e4 : a'.eval (.tmp 4) = .pointer (some ⟨(w.heap.size + 1), 0, none⟩) := (hs.out 4 (by kernel_rfl)).trans (rfl)
    exact g_val (.agg (L.lv (zb) (nb))) hS rfl (run_op_load_lab rfl e4 (HB.out.below hS HB.out.lt)) rfl
  · go_light; intro listed a' w' hs hS hun hdep
    have e64 : a'.eval (.tmp 64) = .agg (L.lv (za) (na)) := hs.eval 0 _ 64 rfl (hdep ⟨0, .data⟩ (by simp) rfl) rfl
    have e65 : a'.eval (.tmp 65) = .agg (L.lv (zb) (nb)) := hs.eval 1 _ 65 rfl (hdep ⟨1, .data⟩ (by simp) rfl) rfl
    refine g_call 27 #[.agg (L.lv (za) (na)), .agg (L.lv (zb) (nb))] hS rfl ?_ ?_
    · have hcn := BigFrame.eval_const a'; have hfn := BigFrame.eval_func a'; clear hs hdep; generalize a'.eval = ev at *; go_simp
    · exact c_val (Dab.out w') rfl
  · go_light; intro listed a' w' hs hS hun hdep
    have e3 : a'.eval (.tmp 3) = .pointer (some ⟨w.heap.size, 0, none⟩) := (hs.out 3 (by kernel_rfl)).trans (rfl)
    exact g_val (.agg (L.lv (za) (na))) hS rfl (run_op_load_lab rfl e3 (HA.out.below hS HA.out.lt)) rfl
  · go_light; intro listed a' w' hs hS hun hdep
    have e4 : a'.eval (.tmp 4) = .pointer (some ⟨(w.heap.size + 1), 0, none⟩) := (hs.out 4 (by kernel_rfl)).trans (rfl)
    exact g_val (.agg (L.lv (zb) (nb))) hS rfl (run_op_load_lab rfl e4 (HB.out.below hS HB.out.lt)) rfl
  · go_light; intro listed a' w' hs hS hun hdep
    have e67 : a'.eval (.tmp 67) = .agg (L.lv (za) (na)) := hs.eval 3 _ 67 rfl (hdep ⟨3, .data⟩ (by simp) rfl) rfl
    have e68 : a'.eval (.tmp 68) = .agg (L.lv (zb) (nb)) := hs.eval 4 _ 68 rfl (hdep ⟨4, .data⟩ (by simp) rfl) rfl
    refine g_call 28 #[.agg (L.lv (za) (na)), .agg (L.lv (zb) (nb))] hS rfl ?_ ?_
    · have hcn := BigFrame.eval_const a'; have hfn := BigFrame.eval_func a'; clear hs hdep; generalize a'.eval = ev at *; go_simp
    · exact c_val (Eab.out w') rfl
  · go_light; intro listed a' w' hs hS hun hdep
    have e66 : a'.eval (.tmp 66) = .bool dab := hs.eval 2 _ 66 rfl (hdep ⟨2, .data⟩ (by simp) rfl) rfl
    have e69 : a'.eval (.tmp 69) = .bool dab := hs.eval 5 _ 69 rfl (hdep ⟨5, .data⟩ (by simp) rfl) rfl
    refine g_val (.bool true) hS rfl ?_ rfl
    have hcn := BigFrame.eval_const a'
    have hfn := BigFrame.eval_func a'
    clear hs hdep
    generalize a'.eval = ev at *
    go_simp
  · go_light; intro listed a' w' hs hS hun hdep
    have e70 : a'.eval (.tmp 70) = .bool true := hs.eval 6 _ 70 rfl (hdep ⟨6, .data⟩ (by simp) rfl) rfl
    refine g_val (.bool true) hS rfl ?_ rfl
    have hcn := BigFrame.eval_const a'
    have hfn := BigFrame.eval_func a'
    clear hs hdep
    generalize a'.eval = ev at *
    go_simp
  · go_light; intro listed a' w' hs hS hun hdep
    have eg : a'.eval (.tmp 71) = .bool true := hs.eval 7 _ 71 rfl (hdep ⟨7, .guard⟩ (by simp) rfl) rfl
    have e3 : a'.eval (.tmp 3) = .pointer (some ⟨w.heap.size, 0, none⟩) := (hs.out 3 (by kernel_rfl)).trans (rfl)
    exact g_val (.agg (L.lv (za) (na))) hS (wanted_yes rfl rfl rfl eg) (run_op_load_lab rfl e3 (HA.out.below hS HA.out.lt)) rfl
  · go_light; intro listed a' w' hs hS hun hdep
    have eg : a'.eval (.tmp 71) = .bool true := hs.eval 7 _ 71 rfl (hdep ⟨7, .guard⟩ (by simp) rfl) rfl
    have e4 : a'.eval (.tmp 4) = .pointer (some ⟨(w.heap.size + 1), 0, none⟩) := (hs.out 4 (by kernel_rfl)).trans (rfl)
    exact g_val (.agg (L.lv (zb) (nb))) hS (wanted_yes rfl rfl rfl eg) (run_op_load_lab rfl e4 (HB.out.below hS HB.out.lt)) rfl
  · go_light; intro listed a' w' hs hS hun hdep
    have eg : a'.eval (.tmp 71) = .bool true := hs.eval 7 _ 71 rfl (hdep ⟨7, .guard⟩ (by simp) rfl) rfl
    have e72 : a'.eval (.tmp 72) = .agg (L.lv (za) (na)) := hs.eval 8 _ 72 rfl (hdep ⟨8, .data⟩ (by simp) rfl) rfl
    have e73 : a'.eval (.tmp 73) = .agg (L.lv (zb) (nb)) := hs.eval 9 _ 73 rfl (hdep ⟨9, .data⟩ (by simp) rfl) rfl
    refine g_call 29 #[.agg (L.lv (za) (na)), .agg (L.lv (zb) (nb))] hS (wanted_yes rfl rfl rfl eg) ?_ ?_
    · have hcn := BigFrame.eval_const a'; have hfn := BigFrame.eval_func a'; clear hs hdep; generalize a'.eval = ev at *; go_simp
    · exact c_val (HQ.out w') rfl
  · go_light; intro listed a' w' hs hS hun hdep
    have eg : a'.eval (.tmp 71) = .bool true := hs.eval 7 _ 71 rfl (hdep ⟨7, .guard⟩ (by simp) rfl) rfl
    have e7 : a'.eval (.tmp 7) = .int .i64 q := (hs.out 7 (by kernel_rfl)).trans (rfl)
    refine g_val (.int .i64 q) hS (wanted_yes rfl rfl rfl eg) ?_ rfl
    have hcn := BigFrame.eval_const a'
    have hfn := BigFrame.eval_func a'
    clear hs hdep
    generalize a'.eval = ev at *
    go_simp
  · go_light; intro listed a' w' hs hS hun hdep
    have eg : a'.eval (.tmp 71) = .bool true := hs.eval 7 _ 71 rfl (hdep ⟨7, .guard⟩ (by simp) rfl) rfl
    have e74 : a'.eval (.tmp 74) = .int .i64 q := hs.eval 10 _ 74 rfl (hdep ⟨10, .data⟩ (by simp) rfl) rfl
    have e75 : a'.eval (.tmp 75) = .int .i64 q := hs.eval 11 _ 75 rfl (hdep ⟨11, .data⟩ (by simp) rfl) rfl
    refine g_val (.bool true) hS (wanted_yes rfl rfl rfl eg) ?_ rfl
    have hcn := BigFrame.eval_const a'
    have hfn := BigFrame.eval_func a'
    clear hs hdep
    generalize a'.eval = ev at *
    go_simp
  · go_light; intro listed a' w' hs hS hun hdep
    have e71 : a'.eval (.tmp 71) = .bool true := hs.eval 7 _ 71 rfl (hdep ⟨7, .data⟩ (by simp) rfl) rfl
    have e76 : a'.eval (.tmp 76) = .bool true := hs.eval 12 _ 76 rfl (hdep ⟨12, .data⟩ (by simp) rfl) rfl
    refine g_val (.bool true) hS rfl ?_ rfl
    have hcn := BigFrame.eval_const a'
    have hfn := BigFrame.eval_func a'
    clear hs hdep
    generalize a'.eval = ev at *
    go_simp
  · go_light; intro listed a' w' hs hS hun hdep
    have e77 : a'.eval (.tmp 77) = .bool true := hs.eval 13 _ 77 rfl (hdep ⟨13, .data⟩ (by simp) rfl) rfl
    refine g_val (.bool true) hS rfl ?_ rfl
    have hcn := BigFrame.eval_const a'
    have hfn := BigFrame.eval_func a'
    clear hs hdep
    generalize a'.eval = ev at *
    go_simp
  · go_light; intro listed a' w' hs hS hun hdep
    have eg : a'.eval (.tmp 78) = .bool true := hs.eval 14 _ 78 rfl (hdep ⟨14, .guard⟩ (by simp) rfl) rfl
    have e4 : a'.eval (.tmp 4) = .pointer (some ⟨(w.heap.size + 1), 0, none⟩) := (hs.out 4 (by kernel_rfl)).trans (rfl)
    exact g_val (.agg (L.lv (zb) (nb))) hS (wanted_yes rfl rfl rfl eg) (run_op_load_lab rfl e4 (HB.out.below hS HB.out.lt)) rfl
  · go_light; intro listed a' w' hs hS hun hdep
    have eg : a'.eval (.tmp 78) = .bool true := hs.eval 14 _ 78 rfl (hdep ⟨14, .guard⟩ (by simp) rfl) rfl
    have e3 : a'.eval (.tmp 3) = .pointer (some ⟨w.heap.size, 0, none⟩) := (hs.out 3 (by kernel_rfl)).trans (rfl)
    exact g_val (.agg (L.lv (za) (na))) hS (wanted_yes rfl rfl rfl eg) (run_op_load_lab rfl e3 (HA.out.below hS HA.out.lt)) rfl
  · go_light; intro listed a' w' hs hS hun hdep
    have eg : a'.eval (.tmp 78) = .bool true := hs.eval 14 _ 78 rfl (hdep ⟨14, .guard⟩ (by simp) rfl) rfl
    have e5 : a'.eval (.tmp 5) = .pointer (some ⟨(w.heap.size + 1 + 1), 0, none⟩) := (hs.out 5 (by kernel_rfl)).trans (rfl)
    exact g_val (.agg (L.lv (zc) (nc))) hS (wanted_yes rfl rfl rfl eg) (run_op_load_lab rfl e5 (HC.out.below hS HC.out.lt)) rfl
  · go_light; intro listed a' w' hs hS hun hdep
    have eg : a'.eval (.tmp 78) = .bool true := hs.eval 14 _ 78 rfl (hdep ⟨14, .guard⟩ (by simp) rfl) rfl
    have e79 : a'.eval (.tmp 79) = .agg (L.lv (zb) (nb)) := hs.eval 15 _ 79 rfl (hdep ⟨15, .data⟩ (by simp) rfl) rfl
    have e80 : a'.eval (.tmp 80) = .agg (L.lv (za) (na)) := hs.eval 16 _ 80 rfl (hdep ⟨16, .data⟩ (by simp) rfl) rfl
    have e81 : a'.eval (.tmp 81) = .agg (L.lv (zc) (nc)) := hs.eval 17 _ 81 rfl (hdep ⟨17, .data⟩ (by simp) rfl) rfl
    refine g_call 30 #[.agg (L.lv (zb) (nb)), .agg (L.lv (za) (na)), .agg (L.lv (zc) (nc))] hS (wanted_yes rfl rfl rfl eg) ?_ ?_
    · have hcn := BigFrame.eval_const a'; have hfn := BigFrame.eval_func a'; clear hs hdep; generalize a'.eval = ev at *; go_simp
    · exact c_val (HI.out w') rfl
  · go_light; intro listed a' w' hs hS hun hdep
    have eg : a'.eval (.tmp 78) = .bool true := hs.eval 14 _ 78 rfl (hdep ⟨14, .guard⟩ (by simp) rfl) rfl
    have e4 : a'.eval (.tmp 4) = .pointer (some ⟨(w.heap.size + 1), 0, none⟩) := (hs.out 4 (by kernel_rfl)).trans (rfl)
    exact g_val (.agg (L.lv (zb) (nb))) hS (wanted_yes rfl rfl rfl eg) (run_op_load_lab rfl e4 (HB.out.below hS HB.out.lt)) rfl
  · go_light; intro listed a' w' hs hS hun hdep
    have eg : a'.eval (.tmp 78) = .bool true := hs.eval 14 _ 78 rfl (hdep ⟨14, .guard⟩ (by simp) rfl) rfl
    have e3 : a'.eval (.tmp 3) = .pointer (some ⟨w.heap.size, 0, none⟩) := (hs.out 3 (by kernel_rfl)).trans (rfl)
    exact g_val (.agg (L.lv (za) (na))) hS (wanted_yes rfl rfl rfl eg) (run_op_load_lab rfl e3 (HA.out.below hS HA.out.lt)) rfl
  · go_light; intro listed a' w' hs hS hun hdep
    have eg : a'.eval (.tmp 78) = .bool true := hs.eval 14 _ 78 rfl (hdep ⟨14, .guard⟩ (by simp) rfl) rfl
    have e83 : a'.eval (.tmp 83) = .agg (L.lv (zb) (nb)) := hs.eval 19 _ 83 rfl (hdep ⟨19, .data⟩ (by simp) rfl) rfl
    have e84 : a'.eval (.tmp 84) = .agg (L.lv (za) (na)) := hs.eval 20 _ 84 rfl (hdep ⟨20, .data⟩ (by simp) rfl) rfl
    refine g_call 28 #[.agg (L.lv (zb) (nb)), .agg (L.lv (za) (na))] hS (wanted_yes rfl rfl rfl eg) ?_ ?_
    · have hcn := BigFrame.eval_const a'; have hfn := BigFrame.eval_func a'; clear hs hdep; generalize a'.eval = ev at *; go_simp
    · exact c_val (Eba.out w') rfl
  · go_light; intro listed a' w' hs hS hun hdep
    have eg : a'.eval (.tmp 78) = .bool true := hs.eval 14 _ 78 rfl (hdep ⟨14, .guard⟩ (by simp) rfl) rfl
    have e85 : a'.eval (.tmp 85) = .bool dba := hs.eval 21 _ 85 rfl (hdep ⟨21, .data⟩ (by simp) rfl) rfl
    refine g_val (.bool dba) hS (wanted_yes rfl rfl rfl eg) ?_ rfl
    have hcn := BigFrame.eval_const a'
    have hfn := BigFrame.eval_func a'
    clear hs hdep
    generalize a'.eval = ev at *
    go_simp
  · go_light; intro listed a' w' hs hS hun hdep
    have eg : a'.eval (.tmp 86) = .bool dba := hs.eval 22 _ 86 rfl (hdep ⟨22, .guard⟩ (by simp) rfl) rfl
    have e5 : a'.eval (.tmp 5) = .pointer (some ⟨(w.heap.size + 1 + 1), 0, none⟩) := (hs.out 5 (by kernel_rfl)).trans (rfl)
    cases dba
    · exact g_not hS (wanted_no rfl rfl rfl eg (by decide)) rfl
    · exact g_val (.agg (L.lv (zc) (nc))) hS (wanted_yes rfl rfl rfl eg) (run_op_load_lab rfl e5 (HC.out.below hS HC.out.lt)) rfl
  · go_light; intro listed a' w' hs hS hun hdep
    have eg : a'.eval (.tmp 86) = .bool dba := hs.eval 22 _ 86 rfl (hdep ⟨22, .guard⟩ (by simp) rfl) rfl
    have e4 : a'.eval (.tmp 4) = .pointer (some ⟨(w.heap.size + 1), 0, none⟩) := (hs.out 4 (by kernel_rfl)).trans (rfl)
    cases dba
    · exact g_not hS (wanted_no rfl rfl rfl eg (by decide)) rfl
    · exact g_val (.agg (L.lv (zb) (nb))) hS (wanted_yes rfl rfl rfl eg) (run_op_load_lab rfl e4 (HB.out.below hS HB.out.lt)) rfl
  · go_light; intro listed a' w' hs hS hun hdep
    have eg : a'.eval (.tmp 86) = .bool dba := hs.eval 22 _ 86 rfl (hdep ⟨22, .guard⟩ (by simp) rfl) rfl
    have e87 : a'.eval (.tmp 87) = (if dba = true then .agg (L.lv (zc) (nc)) else undef) := hs.eval 23 _ 87 rfl (hdep ⟨23, .data⟩ (by simp) rfl) rfl
    have e88 : a'.eval (.tmp 88) = (if dba = true then .agg (L.lv (zb) (nb)) else undef) := hs.eval 24 _ 88 rfl (hdep ⟨24, .data⟩ (by simp) rfl) rfl
    cases dba
    · exact g_not hS (wanted_no rfl rfl rfl eg (by decide)) rfl
    · replace e87 := e87.trans (if_pos rfl)
      replace e88 := e88.trans (if_pos rfl)
      refine g_call 28 #[.agg (L.lv (zc) (nc)), .agg (L.lv (zb) (nb))] hS (wanted_yes rfl rfl rfl eg) ?_ ?_
      · have hcn := BigFrame.eval_const a'; have hfn := BigFrame.eval_func a'; clear hs hdep; generalize a'.eval = ev at *; go_simp
      · exact c_val (Ecb.out w') rfl
  · go_light; intro listed a' w' hs hS hun hdep
    have eg : a'.eval (.tmp 78) = .bool true := hs.eval 14 _ 78 rfl (hdep ⟨14, .guard⟩ (by simp) rfl) rfl
    have e86 : a'.eval (.tmp 86) = .bool dba := hs.eval 22 _ 86 rfl (hdep ⟨22, .data⟩ (by simp) rfl) rfl
    have e89 : a'.eval (.tmp 89) = (if dba = true then .bool dcb else undef) := hs.eval 25 _ 89 rfl (hdep ⟨25, .data⟩ (by simp) rfl) rfl
    cases dba
    · replace e89 := e89.trans (if_neg (by decide))
      refine g_val (.bool (false && dcb)) hS (wanted_yes rfl rfl rfl eg) ?_ rfl
      have hcn := BigFrame.eval_const a'
      have hfn := BigFrame.eval_func a'
      clear hs hdep
      generalize a'.eval = ev at *
      go_simp
    · replace e89 := e89.trans (if_pos rfl)
      refine g_val (.bool (true && dcb)) hS (wanted_yes rfl rfl rfl eg) ?_ rfl
      have hcn := BigFrame.eval_const a'
      have hfn := BigFrame.eval_func a'
      clear hs hdep
      generalize a'.eval = ev at *
      go_simp
  · go_light; intro listed a' w' hs hS hun hdep
    have eg : a'.eval (.tmp 78) = .bool true := hs.eval 14 _ 78 rfl (hdep ⟨14, .guard⟩ (by simp) rfl) rfl
    have e82 : a'.eval (.tmp 82) = .bool (dba && dcb) := hs.eval 18 _ 82 rfl (hdep ⟨18, .data⟩ (by simp) rfl) rfl
    have e90 : a'.eval (.tmp 90) = .bool (dba && dcb) := hs.eval 26 _ 90 rfl (hdep ⟨26, .data⟩ (by simp) rfl) rfl
    refine g_val (.bool true) hS (wanted_yes rfl rfl rfl eg) ?_ rfl
    have hcn := BigFrame.eval_const a'
    have hfn := BigFrame.eval_func a'
    clear hs hdep
    generalize a'.eval = ev at *
    go_simp
  · go_light; intro listed a' w' hs hS hun hdep
    have e78 : a'.eval (.tmp 78) = .bool true := hs.eval 14 _ 78 rfl (hdep ⟨14, .data⟩ (by simp) rfl) rfl
    have e91 : a'.eval (.tmp 91) = .bool true := hs.eval 27 _ 91 rfl (hdep ⟨27, .data⟩ (by simp) rfl) rfl
    refine g_val (.bool true) hS rfl ?_ rfl
    have hcn := BigFrame.eval_const a'
    have hfn := BigFrame.eval_func a'
    clear hs hdep
    generalize a'.eval = ev at *
    go_simp
  · go_light; intro listed a' w' hs hS hun hdep
    have e92 : a'.eval (.tmp 92) = .bool true := hs.eval 28 _ 92 rfl (hdep ⟨28, .data⟩ (by simp) rfl) rfl
    refine g_val (.bool true) hS rfl ?_ rfl
    have hcn := BigFrame.eval_const a'
    have hfn := BigFrame.eval_func a'
    clear hs hdep
    generalize a'.eval = ev at *
    go_simp
  · go_light; intro listed a' w' hs hS hun hdep
    have eg : a'.eval (.tmp 93) = .bool true := hs.eval 29 _ 93 rfl (hdep ⟨29, .guard⟩ (by simp) rfl) rfl
    have e3 : a'.eval (.tmp 3) = .pointer (some ⟨w.heap.size, 0, none⟩) := (hs.out 3 (by kernel_rfl)).trans (rfl)
    exact g_val (.agg (L.lv (za) (na))) hS (wanted_yes rfl rfl rfl eg) (run_op_load_lab rfl e3 (HA.out.below hS HA.out.lt)) rfl
  · go_light; intro listed a' w' hs hS hun hdep
    have eg : a'.eval (.tmp 93) = .bool true := hs.eval 29 _ 93 rfl (hdep ⟨29, .guard⟩ (by simp) rfl) rfl
    have e4 : a'.eval (.tmp 4) = .pointer (some ⟨(w.heap.size + 1), 0, none⟩) := (hs.out 4 (by kernel_rfl)).trans (rfl)
    exact g_val (.agg (L.lv (zb) (nb))) hS (wanted_yes rfl rfl rfl eg) (run_op_load_lab rfl e4 (HB.out.below hS HB.out.lt)) rfl
  · go_light; intro listed a' w' hs hS hun hdep
    have eg : a'.eval (.tmp 93) = .bool true := hs.eval 29 _ 93 rfl (hdep ⟨29, .guard⟩ (by simp) rfl) rfl
    have e94 : a'.eval (.tmp 94) = .agg (L.lv (za) (na)) := hs.eval 30 _ 94 rfl (hdep ⟨30, .data⟩ (by simp) rfl) rfl
    have e95 : a'.eval (.tmp 95) = .agg (L.lv (zb) (nb)) := hs.eval 31 _ 95 rfl (hdep ⟨31, .data⟩ (by simp) rfl) rfl
    exact g_new (.slice (some ⟨w'.heap.size, 0, none⟩) 2 2) _ hS (wanted_yes rfl rfl rfl eg) (run_op_labs [(za, na), (zb, nb)] rfl (by simp [e94, e95, labV]) rfl (by simp) (by simp)) ⟨w'.heap.size, Below.size hS, rfl, heap_alloc_new w' _⟩
  · go_light; intro listed a' w' hs hS hun hdep
    have eg : a'.eval (.tmp 93) = .bool true := hs.eval 29 _ 93 rfl (hdep ⟨29, .guard⟩ (by simp) rfl) rfl
    have r96 : (.row (labsX [(za, na), (zb, nb)]) 39 2 : GV).ok W1.heap.size (a'.eval (.tmp 96)) w' := hs.eval 32 _ 96 rfl (hdep ⟨32, .data⟩ (by simp) rfl)  rfl
    obtain ⟨b96, _, e96, k96⟩ := r96
    refine g_call 31 #[.slice (some ⟨b96, 0, none⟩) 2 2] hS (wanted_yes rfl rfl rfl eg) ?_ ?_
    · have hcn := BigFrame.eval_const a'; have hfn := BigFrame.eval_func a'; clear hs hdep; generalize a'.eval = ev at *; go_simp
    · exact c_val (HRt.out b96 w' k96) rfl
  · go_light; intro listed a' w' hs hS hun hdep
    have eg : a'.eval (.tmp 93) = .bool true := hs.eval 29 _ 93 rfl (hdep ⟨29, .guard⟩ (by simp) rfl) rfl
    have e9 : a'.eval (.tmp 9) = .bool R := (hs.out 9 (by kernel_rfl)).trans (rfl)
    refine g_val (.bool R) hS (wanted_yes rfl rfl rfl eg) ?_ rfl
    have hcn := BigFrame.eval_const a'
    have hfn := BigFrame.eval_func a'
    clear hs hdep
    generalize a'.eval = ev at *
    go_simp
  · go_light; intro listed a' w' hs hS hun hdep
    have eg : a'.eval (.tmp 93) = .bool true := hs.eval 29 _ 93 rfl (hdep ⟨29, .guard⟩ (by simp) rfl) rfl
    have e97 : a'.eval (.tmp 97) = .bool R := hs.eval 33 _ 97 rfl (hdep ⟨33, .data⟩ (by simp) rfl) rfl
    have e98 : a'.eval (.tmp 98) = .bool R := hs.eval 34 _ 98 rfl (hdep ⟨34, .data⟩ (by simp) rfl) rfl
    refine g_val (.bool true) hS (wanted_yes rfl rfl rfl eg) ?_ rfl
    have hcn := BigFrame.eval_const a'
    have hfn := BigFrame.eval_func a'
    clear hs hdep
    generalize a'.eval = ev at *
    go_simp
  · go_light; intro listed a' w' hs hS hun hdep
    have e93 : a'.eval (.tmp 93) = .bool true := hs.eval 29 _ 93 rfl (hdep ⟨29, .data⟩ (by simp) rfl) rfl
    have e99 : a'.eval (.tmp 99) = .bool true := hs.eval 35 _ 99 rfl (hdep ⟨35, .data⟩ (by simp) rfl) rfl
    refine g_val (.bool true) hS rfl ?_ rfl
    have hcn := BigFrame.eval_const a'
    have hfn := BigFrame.eval_func a'
    clear hs hdep
    generalize a'.eval = ev at *
    go_simp
  · go_light; intro listed a' w' hs hS hun hdep
    have e100 : a'.eval (.tmp 100) = .bool true := hs.eval 36 _ 100 rfl (hdep ⟨36, .data⟩ (by simp) rfl) rfl
    refine g_val (.bool true) hS rfl ?_ rfl
    have hcn := BigFrame.eval_const a'
    have hfn := BigFrame.eval_func a'
    clear hs hdep
    generalize a'.eval = ev at *
    go_simp
  · go_light; intro listed a' w' hs hS hun hdep
    have eg : a'.eval (.tmp 101) = .bool true := hs.eval 37 _ 101 rfl (hdep ⟨37, .guard⟩ (by simp) rfl) rfl
    refine g_call 31 #[Value.slice none 0 0] hS (wanted_yes rfl rfl rfl eg) ?_ ?_
    · have hcn := BigFrame.eval_const a'; have hfn := BigFrame.eval_func a'; clear hs hdep; generalize a'.eval = ev at *; go_simp
    · exact c_val (HRn.out w') rfl
  · go_light; intro listed a' w' hs hS hun hdep
    have e101 : a'.eval (.tmp 101) = .bool true := hs.eval 37 _ 101 rfl (hdep ⟨37, .data⟩ (by simp) rfl) rfl
    have e102 : a'.eval (.tmp 102) = .bool true := hs.eval 38 _ 102 rfl (hdep ⟨38, .data⟩ (by simp) rfl) rfl
    refine g_val (.bool true) hS rfl ?_ rfl
    have hcn := BigFrame.eval_const a'
    have hfn := BigFrame.eval_func a'
    clear hs hdep
    generalize a'.eval = ev at *
    go_simp
  · go_light; intro listed a' w' hs hS hun hdep
    have e103 : a'.eval (.tmp 103) = .bool true := hs.eval 39 _ 103 rfl (hdep ⟨39, .data⟩ (by simp) rfl) rfl
    refine g_val (.bool true) hS rfl ?_ rfl
    have hcn := BigFrame.eval_const a'
    have hfn := BigFrame.eval_func a'
    clear hs hdep
    generalize a'.eval = ev at *
    go_simp
  · go_light; intro listed a' w' hs hS hun hdep
    have eg : a'.eval (.tmp 104) = .bool true := hs.eval 40 _ 104 rfl (hdep ⟨40, .guard⟩ (by simp) rfl) rfl
    refine g_call 32 #[] hS (wanted_yes rfl rfl rfl eg) ?_ ?_
    · have hcn := BigFrame.eval_const a'; have hfn := BigFrame.eval_func a'; clear hs hdep; generalize a'.eval = ev at *; go_simp
    · exact c_val (lab_awake w' (HL.out.below hS)) rfl
  · go_light; intro listed a' w' hs hS hun hdep
    have e104 : a'.eval (.tmp 104) = .bool true := hs.eval 40 _ 104 rfl (hdep ⟨40, .data⟩ (by simp) rfl) rfl
    have e105 : a'.eval (.tmp 105) = .bool true := hs.eval 41 _ 105 rfl (hdep ⟨41, .data⟩ (by simp) rfl) rfl
    refine g_val (.bool true) hS rfl ?_ rfl
    have hcn := BigFrame.eval_const a'
    have hfn := BigFrame.eval_func a'
    clear hs hdep
    generalize a'.eval = ev at *
    go_simp
  · go_light; intro listed a' w' hs hS hun hdep
    have e106 : a'.eval (.tmp 106) = .bool true := hs.eval 42 _ 106 rfl (hdep ⟨42, .data⟩ (by simp) rfl) rfl
    refine g_val (.bool true) hS rfl ?_ rfl
    have hcn := BigFrame.eval_const a'
    have hfn := BigFrame.eval_func a'
    clear hs hdep
    generalize a'.eval = ev at *
    go_simp
  · intro vs w3 hlen hV listed hall hS
    obtain ⟨v0, v1, v2, v3, v4, v5, v6, v7, v8, v9, v10, v11, v12, v13, v14, v15, v16, v17, v18, v19, v20, v21, v22, v23, v24, v25, v26, v27, v28, v29, v30, v31, v32, v33, v34, v35, v36, v37, v38, v39, v40, v41, v42, v43, rfl⟩ := vs_44 vs (hlen.trans rfl)
    have q0 : v0 = .agg (L.lv (za) (na)) := hV 0 _ rfl
    have q1 : v1 = .agg (L.lv (zb) (nb)) := hV 1 _ rfl
    have q2 : v2 = .bool dab := hV 2 _ rfl
    have q3 : v3 = .agg (L.lv (za) (na)) := hV 3 _ rfl
    have q4 : v4 = .agg (L.lv (zb) (nb)) := hV 4 _ rfl
    have q5 : v5 = .bool dab := hV 5 _ rfl
    have q6 : v6 = .bool true := hV 6 _ rfl
    have q7 : v7 = .bool true := hV 7 _ rfl
    have q8 : v8 = .agg (L.lv (za) (na)) := hV 8 _ rfl
    have q9 : v9 = .agg (L.lv (zb) (nb)) := hV 9 _ rfl
    have q10 : v10 = .int .i64 q := hV 10 _ rfl
    have q11 : v11 = .int .i64 q := hV 11 _ rfl
    have q12 : v12 = .bool true := hV 12 _ rfl
    have q13 : v13 = .bool true := hV 13 _ rfl
    have q14 : v14 = .bool true := hV 14 _ rfl
    have q15 : v15 = .agg (L.lv (zb) (nb)) := hV 15 _ rfl
    have q16 : v16 = .agg (L.lv (za) (na)) := hV 16 _ rfl
    have q17 : v17 = .agg (L.lv (zc) (nc)) := hV 17 _ rfl
    have q18 : v18 = .bool (dba && dcb) := hV 18 _ rfl
    have q19 : v19 = .agg (L.lv (zb) (nb)) := hV 19 _ rfl
    have q20 : v20 = .agg (L.lv (za) (na)) := hV 20 _ rfl
    have q21 : v21 = .bool dba := hV 21 _ rfl
    have q22 : v22 = .bool dba := hV 22 _ rfl
    have q26 : v26 = .bool (dba && dcb) := hV 26 _ rfl
    have q27 : v27 = .bool true := hV 27 _ rfl
    have q28 : v28 = .bool true := hV 28 _ rfl
    have q29 : v29 = .bool true := hV 29 _ rfl
    have q30 : v30 = .agg (L.lv (za) (na)) := hV 30 _ rfl
    have q31 : v31 = .agg (L.lv (zb) (nb)) := hV 31 _ rfl
    obtain ⟨b32, hge32, q32, hbk32⟩ : (.row (labsX [(za, na), (zb, nb)]) 39 2 : GV).ok W1.heap.size v32 w3 := hV 32 _ rfl
    have q33 : v33 = .bool R := hV 33 _ rfl
    have q34 : v34 = .bool R := hV 34 _ rfl
    have q35 : v35 = .bool true := hV 35 _ rfl
    have q36 : v36 = .bool true := hV 36 _ rfl
    have q37 : v37 = .bool true := hV 37 _ rfl
    have q38 : v38 = .bool true := hV 38 _ rfl
    have q39 : v39 = .bool true := hV 39 _ rfl
    have q40 : v40 = .bool true := hV 40 _ rfl
    have q41 : v41 = .bool true := hV 41 _ rfl
    have q42 : v42 = .bool true := hV 42 _ rfl
    have q43 : v43 = .bool true := hV 43 _ rfl
    have hbel : Below W1.heap.size W1 w3 := hS
    subst q0 q1 q2 q3 q4 q5 q6 q7 q8 q9 q10 q11 q12 q13 q14 q15 q16 q17 q18 q19 q20 q21 q22 q26 q27 q28 q29 q30 q31 q32 q33 q34 q35 q36 q37 q38 q39 q40 q41 q42 q43
    clear hV hS hall
    simp only [lays, Act.put, List.setIfInBounds_toArray, List.set_cons_zero, List.set_cons_succ]
    go_wp2
    go_ret
    exact ⟨rfl, hbw.trans (hbel.mono hbw.size)⟩
#print axioms orders_all
end LbOr
end Go.Proofs.YtmaddfjgiflkbaaDoor
