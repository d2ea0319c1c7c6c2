/- The walk of LabelTurns. -/
import Derived.Test.YtmaddfjgiflkbaaDoorLbAwake
import Derived.Test.YtmaddfjgiflkbaaDoorLbCmp
import Derived.Test.YtmaddfjgiflkbaaDoorCtGen2
namespace Go.Proofs.YtmaddfjgiflkbaaDoor
set_option maxRecDepth 100000
open Go.RowKit
set_option maxRecDepth 100000
set_option linter.unusedVariables false
namespace LbTn
theorem vs_cons {n : Nat} (vs : List Value) (h : vs.length = n + 1) : ∃ v r, vs = v :: r ∧ r.length = n := by
  cases vs with
  | nil => simp at h
  | cons v r => exact ⟨v, r, rfl, by simpa using h⟩
theorem vs_12 (vs : List Value) (h : vs.length = 12) : ∃ v0 v1 v2 v3 v4 v5 v6 v7 v8 v9 v10 v11, vs = [v0, v1, v2, v3, v4, v5, v6, v7, v8, v9, v10, v11] := by
  obtain ⟨v0, r0, rfl, h0⟩ := vs_cons vs h
  obtain ⟨v1, r1, rfl, h1⟩ := vs_cons r0 h0
  obtain ⟨v2, r2, rfl, h2⟩ := vs_cons r1 h1
  obtain ⟨v3, r3, rfl, h3⟩ := vs_cons r2 h2
  obtain ⟨v4, r4, rfl, h4⟩ := vs_cons r3 h3
  obtain ⟨v5, r5, rfl, h5⟩ := vs_cons r4 h4
  obtain ⟨v6, r6, rfl, h6⟩ := vs_cons r5 h5
  obtain ⟨v7, r7, rfl, h7⟩ := vs_cons r6 h6
  obtain ⟨v8, r8, rfl, h8⟩ := vs_cons r7 h7
  obtain ⟨v9, r9, rfl, h9⟩ := vs_cons r8 h8
  obtain ⟨v10, r10, rfl, h10⟩ := vs_cons r9 h9
  obtain ⟨v11, r11, rfl, h11⟩ := vs_cons r10 h10
  obtain rfl := List.eq_nil_of_length_eq_zero h11
  exact ⟨v0, v1, v2, v3, v4, v5, v6, v7, v8, v9, v10, v11, rfl⟩

theorem cmp_three (z : Int) (n : Nat) (y : Int) (m : Nat) : L.cmp z n y m = -1 ∨ L.cmp z n y m = 0 ∨ L.cmp z n y m = 1 := by
  unfold L.cmp L.cmpZ C.cmpN
  repeat' split
  all_goals omega
theorem cmp_neg (z : Int) (n : Nat) (y : Int) (m : Nat) : L.cmp y m z n = - L.cmp z n y m := by
  unfold L.cmp L.cmpZ C.cmpN
  repeat' split
  all_goals omega
theorem cmp_zero (z : Int) (n : Nat) (y : Int) (m : Nat) : L.cmp z n y m = 0 ↔ z = y ∧ n = m := by
  unfold L.cmp L.cmpZ C.cmpN
  repeat' split
  all_goals omega
theorem cmp_le (z : Int) (n : Nat) (y : Int) (m : Nat) (x : Int) (k : Nat) (h1 : L.cmp z n y m ≤ 0) (h2 : L.cmp y m x k ≤ 0) : L.cmp z n x k ≤ 0 := by
  have e (z : Int) (n : Nat) (y : Int) (m : Nat) : L.cmp z n y m ≤ 0 ↔ z < y ∨ z = y ∧ n ≤ m := by
    unfold L.cmp L.cmpZ C.cmpN
    repeat' split
    all_goals omega
  rw [e] at *
  omega
theorem dom_anti (z : Int) (n : Nat) (y : Int) (m : Nat) (h1 : L.dom z n y m = true) (h2 : L.dom y m z n = true) : z = y ∧ n = m := by
  unfold L.dom at *
  rw [Bool.and_eq_true, decide_eq_true_eq, decide_eq_true_eq] at h1 h2
  refine ⟨by omega, ?_⟩
  rw [← h2.2, Nat.and_comm, h1.2]
theorem dom_trans (z : Int) (n : Nat) (y : Int) (m : Nat) (x : Int) (k : Nat) (h1 : L.dom z n y m = true) (h2 : L.dom y m x k = true) : L.dom z n x k = true := by
  unfold L.dom at *
  rw [Bool.and_eq_true, decide_eq_true_eq, decide_eq_true_eq] at *
  refine ⟨by omega, ?_⟩
  rw [← h2.2, Nat.and_assoc, h1.2]
theorem dom_self (z : Int) (n : Nat) : L.dom z n z n = true := by unfold L.dom; rw [decide_eq_true (Int.le_refl z), decide_eq_true (Nat.and_self n)]; rfl
theorem step_opw {P : Program} {ops : Array Oper} {rest : List Oper} {o : Oper} {a : Act} {w w' : World} {Q : Exit → Act → World → Prop} {v : Value} (hgd : Region.wanted o (yielded ops a.tmps) = true) (hr : (execOp a.eval o).run P w = .ok (.value v) w') (h : wpList P ops Q rest (a.put o.dst v) w') : wpList P ops Q (o :: rest) a w := by
  unfold wpList
  rw [if_pos hgd]
  refine .inl ?_
  unfold Oper.wp
  rw [hr]
  exact h
section
variable {o : Oper} {ev : Operand → Value} {w : World} {x y : Operand} {t : TypeId} {z z' : Int} {n m : Nat}
theorem run_op_diff_lab (ho : o.op = .binOp .eql 39 x y t) (hx : ev x = .agg (L.lv z n)) (hy : ev y = .agg (L.lv z' m)) (hn : n < 2 ^ 240) (hm : m < 2 ^ 240) (hd : ¬ (z = z' ∧ n = m)) : (execOp ev o).run Tryd.prog w = .ok (.value (.bool false)) w := by
  rw [run_op_eql_lab ho hx hy hn hm]
  rw [show (decide (z = z') && decide (n = m)) = false from by rw [← Bool.decide_and]; exact decide_eq_false hd]
theorem run_op_nsame_lab (ho : o.op = .binOp .neq 39 x y t) (hx : ev x = .agg (L.lv z n)) (hy : ev y = .agg (L.lv z n)) (hn : n < 2 ^ 240) : (execOp ev o).run Tryd.prog w = .ok (.value (.bool false)) w := by
  rw [run_op_neq_lab ho hx hy hn hn, decide_eq_true rfl, decide_eq_true rfl]; rfl
end

set_option maxHeartbeats 16000000 in
theorem turns_all (za : Int) (na : Nat) (zb : Int) (nb : Nat) (zc : Int) (nc : Nat) (w : World) (hna : na < 2 ^ 240) (hnb : nb < 2 ^ 240) (hnc : nc < 2 ^ 240) (Ld : LaidF w) :
    Calls Tryd.prog 8 #[.agg (L.lv za na), .agg (L.lv zb nb), .agg (L.lv zc nc)] w fun e w' => e = .returned (.bool true) ∧ Below w.heap.size w w' := by
  have FX := cmp_three za na zb nb
  have FY := cmp_three zb nb zc nc
  have FZ := cmp_three za na zc nc
  have fn := cmp_neg za na zb nb
  have fz := cmp_zero za na zb nb
  have fl := cmp_le za na zb nb zc nc
  have da := dom_anti za na zb nb
  have dt := dom_trans za na zb nb zc nc
  have Hab := Lib.hid (fun w => LCmp_any za na zb nb w hna hnb)
  have Hbc := Lib.hid (fun w => LCmp_any zb nb zc nc w hnb hnc)
  have Hac := Lib.hid (fun w => LCmp_any za na zc nc w hna hnc)
  have Hba := Lib.hid (fun w => LCmp_any zb nb za na w hnb hna)
  have Dab := Lib.hid (fun w => Dom_any za na zb nb w hna hnb)
  have Dba := Lib.hid (fun w => Dom_any zb nb za na w hnb hna)
  have Dbc := Lib.hid (fun w => Dom_any zb nb zc nc w hnb hnc)
  have Dac := Lib.hid (fun w => Dom_any za na zc nc w hna hnc)
  have Daa := Lib.hid (fun w => Dom_any za na za na w hna hna)
  rw [dom_self] at Daa
  generalize L.cmp za na zb nb = X at *
  generalize L.cmp zb nb zc nc = Y at *
  generalize L.cmp za na zc nc = Z at *
  generalize L.cmp zb nb za na = X' at *
  generalize L.dom za na zb nb = dab at *
  generalize L.dom zb nb za na = dba at *
  generalize L.dom zb nb zc nc = dbc at *
  generalize L.dom za na zc nc = dac at *
  have FN := Lib.hid fn
  have FX' := Lib.hid FX
  have FL := Lib.hid fl
  have FZ' := Lib.hid fz
  have FY' := Lib.hid FY
  have FZ3 := Lib.hid FZ
  have DA := Lib.hid da
  have DT := Lib.hid dt
  clear fn FX fl fz FY FZ da dt
  have HA := Lib.hid (((LabAt.new w za na).alloc (.cells (L.lv zb nb) 39)).alloc (.cells (L.lv zc nc) 39))
  have HB : Hid (LabAt (((w.alloc (.cells (L.lv za na) 39)).alloc (.cells (L.lv zb nb) 39)).alloc (.cells (L.lv zc nc) 39)) (w.heap.size + 1) zb nb) := Lib.hid (by have := (LabAt.new (w.alloc (.cells (L.lv za na) 39)) zb nb).alloc (.cells (L.lv zc nc) 39); simpa using this)
  have HC : Hid (LabAt (((w.alloc (.cells (L.lv za na) 39)).alloc (.cells (L.lv zb nb) 39)).alloc (.cells (L.lv zc nc) 39)) (w.heap.size + 1 + 1) zc nc) := Lib.hid (by have := LabAt.new ((w.alloc (.cells (L.lv za na) 39)).alloc (.cells (L.lv zb nb) 39)) zc nc; simpa using this)
  have hb0 : Below w.heap.size w (((w.alloc (.cells (L.lv za na) 39)).alloc (.cells (L.lv zb nb) 39)).alloc (.cells (L.lv zc nc) 39)) := (((Below.refl _ w).alloc (Nat.le_refl _) _).alloc (by simp) _).alloc (by simp; omega) _
  have HL0 := Lib.hid (Ld.below hb0)
  clear Ld
  go_enter Tryd.func8, Tryd.ntmps8
  go_wp2
  generalize hW0 : ((w.alloc (.cells (L.lv za na) 39)).alloc (.cells (L.lv zb nb) 39)).alloc (.cells (L.lv zc nc) 39) = W0 at *
  clear hW0
  refine region_gen (VG W0.heap.size [.val (.agg (L.lv (za) (na))), .val (.agg (L.lv (zb) (nb))), .val (.int .i64 X), .val (.agg (L.lv (zb) (nb))), .val (.agg (L.lv (zc) (nc))), .val (.int .i64 Y), .val (.agg (L.lv (za) (na))), .val (.agg (L.lv (zc) (nc))), .val (.int .i64 Z), .val (.int .i64 X), .val (.int .i64 Y), .val (.int .i64 Z)]) (BS W0) (by kernel_rfl) (by kernel_rfl) (Below.refl _ _).drew ⟨?_, ?_, ?_, ?_, ?_, ?_, ?_, ?_, ?_, ?_, ?_, ?_, trivial⟩ ?_
  · go_light; intro listed a' w' hs hS hun hdep
    have e3 : a'.eval (.tmp 3) = .pointer (some ⟨w.heap.size, 0, none⟩) := (hs.out 3 (by kernel_rfl)).trans (rfl)
    exact g_val (.agg (L.lv (za) (na))) hS rfl (run_op_load_lab rfl e3 (HA.out.below hS HA.out.lt)) rfl
  · go_light; intro listed a' w' hs hS hun hdep
    have e4 : a'.eval (.tmp 4) = .pointer (some ⟨(w.heap.size + 1), 0, none⟩) := (hs.out 4 (by kernel_rfl)).trans (rfl)
    exact g_val (.agg (L.lv (zb) (nb))) hS rfl (run_op_load_lab rfl e4 (HB.out.below hS HB.out.lt)) rfl
  · go_light; intro listed a' w' hs hS hun hdep
    have e10 : a'.eval (.tmp 10) = .agg (L.lv (za) (na)) := hs.eval 0 _ 10 rfl (hdep ⟨0, .data⟩ (by simp) rfl) rfl
    have e11 : a'.eval (.tmp 11) = .agg (L.lv (zb) (nb)) := hs.eval 1 _ 11 rfl (hdep ⟨1, .data⟩ (by simp) rfl) rfl
    refine g_call 29 #[.agg (L.lv (za) (na)), .agg (L.lv (zb) (nb))] hS rfl ?_ ?_
    · have hcn := BigFrame.eval_const a'; have hfn := BigFrame.eval_func a'; clear hs hdep; generalize a'.eval = ev at *; go_simp
    · exact c_val (Hab.out w') rfl
  · go_light; intro listed a' w' hs hS hun hdep
    have e4 : a'.eval (.tmp 4) = .pointer (some ⟨(w.heap.size + 1), 0, none⟩) := (hs.out 4 (by kernel_rfl)).trans (rfl)
    exact g_val (.agg (L.lv (zb) (nb))) hS rfl (run_op_load_lab rfl e4 (HB.out.below hS HB.out.lt)) rfl
  · go_light; intro listed a' w' hs hS hun hdep
    have e5 : a'.eval (.tmp 5) = .pointer (some ⟨(w.heap.size + 1 + 1), 0, none⟩) := (hs.out 5 (by kernel_rfl)).trans (rfl)
    exact g_val (.agg (L.lv (zc) (nc))) hS rfl (run_op_load_lab rfl e5 (HC.out.below hS HC.out.lt)) rfl
  · go_light; intro listed a' w' hs hS hun hdep
    have e13 : a'.eval (.tmp 13) = .agg (L.lv (zb) (nb)) := hs.eval 3 _ 13 rfl (hdep ⟨3, .data⟩ (by simp) rfl) rfl
    have e14 : a'.eval (.tmp 14) = .agg (L.lv (zc) (nc)) := hs.eval 4 _ 14 rfl (hdep ⟨4, .data⟩ (by simp) rfl) rfl
    refine g_call 29 #[.agg (L.lv (zb) (nb)), .agg (L.lv (zc) (nc))] hS rfl ?_ ?_
    · have hcn := BigFrame.eval_const a'; have hfn := BigFrame.eval_func a'; clear hs hdep; generalize a'.eval = ev at *; go_simp
    · exact c_val (Hbc.out w') rfl
  · go_light; intro listed a' w' hs hS hun hdep
    have e3 : a'.eval (.tmp 3) = .pointer (some ⟨w.heap.size, 0, none⟩) := (hs.out 3 (by kernel_rfl)).trans (rfl)
    exact g_val (.agg (L.lv (za) (na))) hS rfl (run_op_load_lab rfl e3 (HA.out.below hS HA.out.lt)) rfl
  · go_light; intro listed a' w' hs hS hun hdep
    have e5 : a'.eval (.tmp 5) = .pointer (some ⟨(w.heap.size + 1 + 1), 0, none⟩) := (hs.out 5 (by kernel_rfl)).trans (rfl)
    exact g_val (.agg (L.lv (zc) (nc))) hS rfl (run_op_load_lab rfl e5 (HC.out.below hS HC.out.lt)) rfl
  · go_light; intro listed a' w' hs hS hun hdep
    have e16 : a'.eval (.tmp 16) = .agg (L.lv (za) (na)) := hs.eval 6 _ 16 rfl (hdep ⟨6, .data⟩ (by simp) rfl) rfl
    have e17 : a'.eval (.tmp 17) = .agg (L.lv (zc) (nc)) := hs.eval 7 _ 17 rfl (hdep ⟨7, .data⟩ (by simp) rfl) rfl
    refine g_call 29 #[.agg (L.lv (za) (na)), .agg (L.lv (zc) (nc))] hS rfl ?_ ?_
    · have hcn := BigFrame.eval_const a'; have hfn := BigFrame.eval_func a'; clear hs hdep; generalize a'.eval = ev at *; go_simp
    · exact c_val (Hac.out w') rfl
  · go_light; intro listed a' w' hs hS hun hdep
    have e12 : a'.eval (.tmp 12) = .int .i64 X := hs.eval 2 _ 12 rfl (hdep ⟨2, .data⟩ (by simp) rfl) rfl
    refine g_val (.int .i64 X) hS rfl ?_ rfl
    have hcn := BigFrame.eval_const a'
    have hfn := BigFrame.eval_func a'
    clear hs hdep
    generalize a'.eval = ev at *
    go_simp
  · go_light; intro listed a' w' hs hS hun hdep
    have e15 : a'.eval (.tmp 15) = .int .i64 Y := hs.eval 5 _ 15 rfl (hdep ⟨5, .data⟩ (by simp) rfl) rfl
    refine g_val (.int .i64 Y) hS rfl ?_ rfl
    have hcn := BigFrame.eval_const a'
    have hfn := BigFrame.eval_func a'
    clear hs hdep
    generalize a'.eval = ev at *
    go_simp
  · go_light; intro listed a' w' hs hS hun hdep
    have e18 : a'.eval (.tmp 18) = .int .i64 Z := hs.eval 8 _ 18 rfl (hdep ⟨8, .data⟩ (by simp) rfl) rfl
    refine g_val (.int .i64 Z) hS rfl ?_ rfl
    have hcn := BigFrame.eval_const a'
    have hfn := BigFrame.eval_func a'
    clear hs hdep
    generalize a'.eval = ev at *
    go_simp
  · intro vs w3 hlen hV listed hall hS
    obtain ⟨v0, v1, v2, v3, v4, v5, v6, v7, v8, v9, v10, v11, rfl⟩ := vs_12 vs (hlen.trans rfl)
    have q0 : v0 = .agg (L.lv (za) (na)) := hV 0 _ rfl
    have q1 : v1 = .agg (L.lv (zb) (nb)) := hV 1 _ rfl
    have q2 : v2 = .int .i64 X := hV 2 _ rfl
    have q3 : v3 = .agg (L.lv (zb) (nb)) := hV 3 _ rfl
    have q4 : v4 = .agg (L.lv (zc) (nc)) := hV 4 _ rfl
    have q5 : v5 = .int .i64 Y := hV 5 _ rfl
    have q6 : v6 = .agg (L.lv (za) (na)) := hV 6 _ rfl
    have q7 : v7 = .agg (L.lv (zc) (nc)) := hV 7 _ rfl
    have q8 : v8 = .int .i64 Z := hV 8 _ rfl
    have q9 : v9 = .int .i64 X := hV 9 _ rfl
    have q10 : v10 = .int .i64 Y := hV 10 _ rfl
    have q11 : v11 = .int .i64 Z := hV 11 _ rfl
    have hbel : Below W0.heap.size W0 w3 := hS
    subst q0 q1 q2 q3 q4 q5 q6 q7 q8 q9 q10 q11
    clear hV hS hall
    simp only [lays, Act.put, List.setIfInBounds_toArray, List.set_cons_zero, List.set_cons_succ]
    have hbw := hb0.trans (hbel.mono hb0.size)
    have HAn := Lib.hid (HA.out.below hbel HA.out.lt)
    have HBn := Lib.hid (HB.out.below hbel HB.out.lt)
    have HCn := Lib.hid (HC.out.below hbel HC.out.lt)
    have HLn := Lib.hid (HL0.out.below hbel)
    clear HA HB HC HL0 hbel hb0 Hab Hbc Hac
    have HA := HAn
    have HB := HBn
    have HC := HCn
    have HL0 := HLn
    clear HAn HBn HCn HLn
    have fn := FN.out
    clear FN
    subst fn
    go_wp2_with (first | (refine load_lab rfl rfl rfl HA.out ?_) | (refine load_lab rfl rfl rfl HB.out ?_) | (refine load_lab rfl rfl rfl HC.out ?_))
    rcases FX'.out with rfl | rfl | rfl
    · have hne : ¬ (za = zb ∧ na = nb) := fun h => absurd (FZ'.out.2 h) (by decide)
      by_cases hY : Y ≤ 0
      · have hZ : Z ≤ 0 := FL.out (by decide) hY
        have hYd := decide_eq_true hY
        have hZd : (0 < Z) = False := eq_false (by omega)
        clear FL FX' FY' FZ' FZ3
        refine (Hba.out _).mono ?_
        rintro e w4 ⟨rfl, hbk⟩
        have HAn := Lib.hid (HA.out.below hbk HA.out.lt)
        have HBn := Lib.hid (HB.out.below hbk HB.out.lt)
        have HCn := Lib.hid (HC.out.below hbk HC.out.lt)
        have HLn := Lib.hid (HL0.out.below hbk)
        have hbv := hbw.trans (hbk.mono hbw.size)
        clear HA HB HC HL0 hbw hbk
        have HA := HAn
        have HB := HBn
        have HC := HCn
        have HL0 := HLn
        clear HAn HBn HCn HLn
        have hbw := hbv
        clear hbv
        go_wp2_with (first | (refine load_lab rfl rfl rfl HA.out ?_) | (refine load_lab rfl rfl rfl HB.out ?_) | (refine load_lab rfl rfl rfl HC.out ?_) | (refine step_opw rfl (run_op_diff_lab (z := za) (z' := zb) (n := na) (m := nb) rfl (by simp [Act.eval, Act.put]) (by simp [Act.eval, Act.put]) hna hnb hne) ?_))
        rcases dab with _ | _
        · refine (Dab.out _).mono ?_
          rintro e w5 ⟨rfl, hbk⟩
          have HAn := Lib.hid (HA.out.below hbk HA.out.lt)
          have HBn := Lib.hid (HB.out.below hbk HB.out.lt)
          have HCn := Lib.hid (HC.out.below hbk HC.out.lt)
          have HLn := Lib.hid (HL0.out.below hbk)
          have hbv := hbw.trans (hbk.mono hbw.size)
          clear HA HB HC HL0 hbw hbk
          have HA := HAn
          have HB := HBn
          have HC := HCn
          have HL0 := HLn
          clear HAn HBn HCn HLn
          have hbw := hbv
          clear hbv
          go_wp2_with (first | (refine load_lab rfl rfl rfl HA.out ?_) | (refine load_lab rfl rfl rfl HB.out ?_) | (refine load_lab rfl rfl rfl HC.out ?_))
          refine (Dab.out _).mono ?_
          rintro e w6 ⟨rfl, hbk⟩
          have HAn := Lib.hid (HA.out.below hbk HA.out.lt)
          have HBn := Lib.hid (HB.out.below hbk HB.out.lt)
          have HCn := Lib.hid (HC.out.below hbk HC.out.lt)
          have HLn := Lib.hid (HL0.out.below hbk)
          have hbv := hbw.trans (hbk.mono hbw.size)
          clear HA HB HC HL0 hbw hbk
          have HA := HAn
          have HB := HBn
          have HC := HCn
          have HL0 := HLn
          clear HAn HBn HCn HLn
          have hbw := hbv
          clear hbv
          go_wp2_with (first | (refine load_lab rfl rfl rfl HA.out ?_) | (refine load_lab rfl rfl rfl HB.out ?_) | (refine load_lab rfl rfl rfl HC.out ?_))
          refine (Daa.out _).mono ?_
          rintro e w7 ⟨rfl, hbk⟩
          have HAn := Lib.hid (HA.out.below hbk HA.out.lt)
          have HBn := Lib.hid (HB.out.below hbk HB.out.lt)
          have HCn := Lib.hid (HC.out.below hbk HC.out.lt)
          have HLn := Lib.hid (HL0.out.below hbk)
          have hbv := hbw.trans (hbk.mono hbw.size)
          clear HA HB HC HL0 hbw hbk
          have HA := HAn
          have HB := HBn
          have HC := HCn
          have HL0 := HLn
          clear HAn HBn HCn HLn
          have hbw := hbv
          clear hbv
          go_wp2_with (first | (refine load_lab rfl rfl rfl HA.out ?_) | (refine load_lab rfl rfl rfl HB.out ?_) | (refine load_lab rfl rfl rfl HC.out ?_))
          refine (lab_awake _ HL0.out).mono ?_
          rintro e w90 ⟨rfl, hbk⟩
          have hbv := hbw.trans (hbk.mono hbw.size)
          go_wp2
          go_ret
          exact ⟨rfl, hbv⟩
        · have DA1 := Lib.hid (DA.out rfl)
          have DT1 := Lib.hid (DT.out rfl)
          clear DA DT
          refine (Dab.out _).mono ?_
          rintro e w8 ⟨rfl, hbk⟩
          have HAn := Lib.hid (HA.out.below hbk HA.out.lt)
          have HBn := Lib.hid (HB.out.below hbk HB.out.lt)
          have HCn := Lib.hid (HC.out.below hbk HC.out.lt)
          have HLn := Lib.hid (HL0.out.below hbk)
          have hbv := hbw.trans (hbk.mono hbw.size)
          clear HA HB HC HL0 hbw hbk
          have HA := HAn
          have HB := HBn
          have HC := HCn
          have HL0 := HLn
          clear HAn HBn HCn HLn
          have hbw := hbv
          clear hbv
          go_wp2_with (first | (refine load_lab rfl rfl rfl HA.out ?_) | (refine load_lab rfl rfl rfl HB.out ?_) | (refine load_lab rfl rfl rfl HC.out ?_))
          rcases dba with _ | _
          · refine (Dba.out _).mono ?_
            rintro e w9 ⟨rfl, hbk⟩
            have HAn := Lib.hid (HA.out.below hbk HA.out.lt)
            have HBn := Lib.hid (HB.out.below hbk HB.out.lt)
            have HCn := Lib.hid (HC.out.below hbk HC.out.lt)
            have HLn := Lib.hid (HL0.out.below hbk)
            have hbv := hbw.trans (hbk.mono hbw.size)
            clear HA HB HC HL0 hbw hbk
            have HA := HAn
            have HB := HBn
            have HC := HCn
            have HL0 := HLn
            clear HAn HBn HCn HLn
            have hbw := hbv
            clear hbv
            go_wp2_with (first | (refine load_lab rfl rfl rfl HA.out ?_) | (refine load_lab rfl rfl rfl HB.out ?_) | (refine load_lab rfl rfl rfl HC.out ?_))
            rcases dbc with _ | _
            · refine (Dab.out _).mono ?_
              rintro e w10 ⟨rfl, hbk⟩
              have HAn := Lib.hid (HA.out.below hbk HA.out.lt)
              have HBn := Lib.hid (HB.out.below hbk HB.out.lt)
              have HCn := Lib.hid (HC.out.below hbk HC.out.lt)
              have HLn := Lib.hid (HL0.out.below hbk)
              have hbv := hbw.trans (hbk.mono hbw.size)
              clear HA HB HC HL0 hbw hbk
              have HA := HAn
              have HB := HBn
              have HC := HCn
              have HL0 := HLn
              clear HAn HBn HCn HLn
              have hbw := hbv
              clear hbv
              go_wp2_with (first | (refine load_lab rfl rfl rfl HA.out ?_) | (refine load_lab rfl rfl rfl HB.out ?_) | (refine load_lab rfl rfl rfl HC.out ?_))
              refine (Dbc.out _).mono ?_
              rintro e w11 ⟨rfl, hbk⟩
              have HAn := Lib.hid (HA.out.below hbk HA.out.lt)
              have HBn := Lib.hid (HB.out.below hbk HB.out.lt)
              have HCn := Lib.hid (HC.out.below hbk HC.out.lt)
              have HLn := Lib.hid (HL0.out.below hbk)
              have hbv := hbw.trans (hbk.mono hbw.size)
              clear HA HB HC HL0 hbw hbk
              have HA := HAn
              have HB := HBn
              have HC := HCn
              have HL0 := HLn
              clear HAn HBn HCn HLn
              have hbw := hbv
              clear hbv
              go_wp2_with (first | (refine load_lab rfl rfl rfl HA.out ?_) | (refine load_lab rfl rfl rfl HB.out ?_) | (refine load_lab rfl rfl rfl HC.out ?_))
              refine (Daa.out _).mono ?_
              rintro e w12 ⟨rfl, hbk⟩
              have HAn := Lib.hid (HA.out.below hbk HA.out.lt)
              have HBn := Lib.hid (HB.out.below hbk HB.out.lt)
              have HCn := Lib.hid (HC.out.below hbk HC.out.lt)
              have HLn := Lib.hid (HL0.out.below hbk)
              have hbv := hbw.trans (hbk.mono hbw.size)
              clear HA HB HC HL0 hbw hbk
              have HA := HAn
              have HB := HBn
              have HC := HCn
              have HL0 := HLn
              clear HAn HBn HCn HLn
              have hbw := hbv
              clear hbv
              go_wp2_with (first | (refine load_lab rfl rfl rfl HA.out ?_) | (refine load_lab rfl rfl rfl HB.out ?_) | (refine load_lab rfl rfl rfl HC.out ?_))
              refine (lab_awake _ HL0.out).mono ?_
              rintro e w90 ⟨rfl, hbk⟩
              have hbv := hbw.trans (hbk.mono hbw.size)
              go_wp2
              go_ret
              exact ⟨rfl, hbv⟩
            · obtain rfl := DT1.out rfl
              refine (Dab.out _).mono ?_
              rintro e w13 ⟨rfl, hbk⟩
              have HAn := Lib.hid (HA.out.below hbk HA.out.lt)
              have HBn := Lib.hid (HB.out.below hbk HB.out.lt)
              have HCn := Lib.hid (HC.out.below hbk HC.out.lt)
              have HLn := Lib.hid (HL0.out.below hbk)
              have hbv := hbw.trans (hbk.mono hbw.size)
              clear HA HB HC HL0 hbw hbk
              have HA := HAn
              have HB := HBn
              have HC := HCn
              have HL0 := HLn
              clear HAn HBn HCn HLn
              have hbw := hbv
              clear hbv
              go_wp2_with (first | (refine load_lab rfl rfl rfl HA.out ?_) | (refine load_lab rfl rfl rfl HB.out ?_) | (refine load_lab rfl rfl rfl HC.out ?_))
              refine (Dbc.out _).mono ?_
              rintro e w14 ⟨rfl, hbk⟩
              have HAn := Lib.hid (HA.out.below hbk HA.out.lt)
              have HBn := Lib.hid (HB.out.below hbk HB.out.lt)
              have HCn := Lib.hid (HC.out.below hbk HC.out.lt)
              have HLn := Lib.hid (HL0.out.below hbk)
              have hbv := hbw.trans (hbk.mono hbw.size)
              clear HA HB HC HL0 hbw hbk
              have HA := HAn
              have HB := HBn
              have HC := HCn
              have HL0 := HLn
              clear HAn HBn HCn HLn
              have hbw := hbv
              clear hbv
              go_wp2_with (first | (refine load_lab rfl rfl rfl HA.out ?_) | (refine load_lab rfl rfl rfl HB.out ?_) | (refine load_lab rfl rfl rfl HC.out ?_))
              refine (Dac.out _).mono ?_
              rintro e w15 ⟨rfl, hbk⟩
              have HAn := Lib.hid (HA.out.below hbk HA.out.lt)
              have HBn := Lib.hid (HB.out.below hbk HB.out.lt)
              have HCn := Lib.hid (HC.out.below hbk HC.out.lt)
              have HLn := Lib.hid (HL0.out.below hbk)
              have hbv := hbw.trans (hbk.mono hbw.size)
              clear HA HB HC HL0 hbw hbk
              have HA := HAn
              have HB := HBn
              have HC := HCn
              have HL0 := HLn
              clear HAn HBn HCn HLn
              have hbw := hbv
              clear hbv
              go_wp2_with (first | (refine load_lab rfl rfl rfl HA.out ?_) | (refine load_lab rfl rfl rfl HB.out ?_) | (refine load_lab rfl rfl rfl HC.out ?_))
              refine (Daa.out _).mono ?_
              rintro e w16 ⟨rfl, hbk⟩
              have HAn := Lib.hid (HA.out.below hbk HA.out.lt)
              have HBn := Lib.hid (HB.out.below hbk HB.out.lt)
              have HCn := Lib.hid (HC.out.below hbk HC.out.lt)
              have HLn := Lib.hid (HL0.out.below hbk)
              have hbv := hbw.trans (hbk.mono hbw.size)
              clear HA HB HC HL0 hbw hbk
              have HA := HAn
              have HB := HBn
              have HC := HCn
              have HL0 := HLn
              clear HAn HBn HCn HLn
              have hbw := hbv
              clear hbv
              go_wp2_with (first | (refine load_lab rfl rfl rfl HA.out ?_) | (refine load_lab rfl rfl rfl HB.out ?_) | (refine load_lab rfl rfl rfl HC.out ?_))
              refine (lab_awake _ HL0.out).mono ?_
              rintro e w90 ⟨rfl, hbk⟩
              have hbv := hbw.trans (hbk.mono hbw.size)
              go_wp2
              go_ret
              exact ⟨rfl, hbv⟩
          · exact absurd (DA1.out rfl) hne
      · have hYd := decide_eq_false hY
        clear FL FX' FY' FZ' FZ3
        refine (Hba.out _).mono ?_
        rintro e w17 ⟨rfl, hbk⟩
        have HAn := Lib.hid (HA.out.below hbk HA.out.lt)
        have HBn := Lib.hid (HB.out.below hbk HB.out.lt)
        have HCn := Lib.hid (HC.out.below hbk HC.out.lt)
        have HLn := Lib.hid (HL0.out.below hbk)
        have hbv := hbw.trans (hbk.mono hbw.size)
        clear HA HB HC HL0 hbw hbk
        have HA := HAn
        have HB := HBn
        have HC := HCn
        have HL0 := HLn
        clear HAn HBn HCn HLn
        have hbw := hbv
        clear hbv
        go_wp2_with (first | (refine load_lab rfl rfl rfl HA.out ?_) | (refine load_lab rfl rfl rfl HB.out ?_) | (refine load_lab rfl rfl rfl HC.out ?_) | (refine step_opw rfl (run_op_diff_lab (z := za) (z' := zb) (n := na) (m := nb) rfl (by simp [Act.eval, Act.put]) (by simp [Act.eval, Act.put]) hna hnb hne) ?_))
        rcases dab with _ | _
        · refine (Dab.out _).mono ?_
          rintro e w18 ⟨rfl, hbk⟩
          have HAn := Lib.hid (HA.out.below hbk HA.out.lt)
          have HBn := Lib.hid (HB.out.below hbk HB.out.lt)
          have HCn := Lib.hid (HC.out.below hbk HC.out.lt)
          have HLn := Lib.hid (HL0.out.below hbk)
          have hbv := hbw.trans (hbk.mono hbw.size)
          clear HA HB HC HL0 hbw hbk
          have HA := HAn
          have HB := HBn
          have HC := HCn
          have HL0 := HLn
          clear HAn HBn HCn HLn
          have hbw := hbv
          clear hbv
          go_wp2_with (first | (refine load_lab rfl rfl rfl HA.out ?_) | (refine load_lab rfl rfl rfl HB.out ?_) | (refine load_lab rfl rfl rfl HC.out ?_))
          refine (Dab.out _).mono ?_
          rintro e w19 ⟨rfl, hbk⟩
          have HAn := Lib.hid (HA.out.below hbk HA.out.lt)
          have HBn := Lib.hid (HB.out.below hbk HB.out.lt)
          have HCn := Lib.hid (HC.out.below hbk HC.out.lt)
          have HLn := Lib.hid (HL0.out.below hbk)
          have hbv := hbw.trans (hbk.mono hbw.size)
          clear HA HB HC HL0 hbw hbk
          have HA := HAn
          have HB := HBn
          have HC := HCn
          have HL0 := HLn
          clear HAn HBn HCn HLn
          have hbw := hbv
          clear hbv
          go_wp2_with (first | (refine load_lab rfl rfl rfl HA.out ?_) | (refine load_lab rfl rfl rfl HB.out ?_) | (refine load_lab rfl rfl rfl HC.out ?_))
          refine (Daa.out _).mono ?_
          rintro e w20 ⟨rfl, hbk⟩
          have HAn := Lib.hid (HA.out.below hbk HA.out.lt)
          have HBn := Lib.hid (HB.out.below hbk HB.out.lt)
          have HCn := Lib.hid (HC.out.below hbk HC.out.lt)
          have HLn := Lib.hid (HL0.out.below hbk)
          have hbv := hbw.trans (hbk.mono hbw.size)
          clear HA HB HC HL0 hbw hbk
          have HA := HAn
          have HB := HBn
          have HC := HCn
          have HL0 := HLn
          clear HAn HBn HCn HLn
          have hbw := hbv
          clear hbv
          go_wp2_with (first | (refine load_lab rfl rfl rfl HA.out ?_) | (refine load_lab rfl rfl rfl HB.out ?_) | (refine load_lab rfl rfl rfl HC.out ?_))
          refine (lab_awake _ HL0.out).mono ?_
          rintro e w90 ⟨rfl, hbk⟩
          have hbv := hbw.trans (hbk.mono hbw.size)
          go_wp2
          go_ret
          exact ⟨rfl, hbv⟩
        · have DA1 := Lib.hid (DA.out rfl)
          have DT1 := Lib.hid (DT.out rfl)
          clear DA DT
          refine (Dab.out _).mono ?_
          rintro e w21 ⟨rfl, hbk⟩
          have HAn := Lib.hid (HA.out.below hbk HA.out.lt)
          have HBn := Lib.hid (HB.out.below hbk HB.out.lt)
          have HCn := Lib.hid (HC.out.below hbk HC.out.lt)
          have HLn := Lib.hid (HL0.out.below hbk)
          have hbv := hbw.trans (hbk.mono hbw.size)
          clear HA HB HC HL0 hbw hbk
          have HA := HAn
          have HB := HBn
          have HC := HCn
          have HL0 := HLn
          clear HAn HBn HCn HLn
          have hbw := hbv
          clear hbv
          go_wp2_with (first | (refine load_lab rfl rfl rfl HA.out ?_) | (refine load_lab rfl rfl rfl HB.out ?_) | (refine load_lab rfl rfl rfl HC.out ?_))
          rcases dba with _ | _
          · refine (Dba.out _).mono ?_
            rintro e w22 ⟨rfl, hbk⟩
            have HAn := Lib.hid (HA.out.below hbk HA.out.lt)
            have HBn := Lib.hid (HB.out.below hbk HB.out.lt)
            have HCn := Lib.hid (HC.out.below hbk HC.out.lt)
            have HLn := Lib.hid (HL0.out.below hbk)
            have hbv := hbw.trans (hbk.mono hbw.size)
            clear HA HB HC HL0 hbw hbk
            have HA := HAn
            have HB := HBn
            have HC := HCn
            have HL0 := HLn
            clear HAn HBn HCn HLn
            have hbw := hbv
            clear hbv
            go_wp2_with (first | (refine load_lab rfl rfl rfl HA.out ?_) | (refine load_lab rfl rfl rfl HB.out ?_) | (refine load_lab rfl rfl rfl HC.out ?_))
            rcases dbc with _ | _
            · refine (Dab.out _).mono ?_
              rintro e w23 ⟨rfl, hbk⟩
              have HAn := Lib.hid (HA.out.below hbk HA.out.lt)
              have HBn := Lib.hid (HB.out.below hbk HB.out.lt)
              have HCn := Lib.hid (HC.out.below hbk HC.out.lt)
              have HLn := Lib.hid (HL0.out.below hbk)
              have hbv := hbw.trans (hbk.mono hbw.size)
              clear HA HB HC HL0 hbw hbk
              have HA := HAn
              have HB := HBn
              have HC := HCn
              have HL0 := HLn
              clear HAn HBn HCn HLn
              have hbw := hbv
              clear hbv
              go_wp2_with (first | (refine load_lab rfl rfl rfl HA.out ?_) | (refine load_lab rfl rfl rfl HB.out ?_) | (refine load_lab rfl rfl rfl HC.out ?_))
              refine (Dbc.out _).mono ?_
              rintro e w24 ⟨rfl, hbk⟩
              have HAn := Lib.hid (HA.out.below hbk HA.out.lt)
              have HBn := Lib.hid (HB.out.below hbk HB.out.lt)
              have HCn := Lib.hid (HC.out.below hbk HC.out.lt)
              have HLn := Lib.hid (HL0.out.below hbk)
              have hbv := hbw.trans (hbk.mono hbw.size)
              clear HA HB HC HL0 hbw hbk
              have HA := HAn
              have HB := HBn
              have HC := HCn
              have HL0 := HLn
              clear HAn HBn HCn HLn
              have hbw := hbv
              clear hbv
              go_wp2_with (first | (refine load_lab rfl rfl rfl HA.out ?_) | (refine load_lab rfl rfl rfl HB.out ?_) | (refine load_lab rfl rfl rfl HC.out ?_))
              refine (Daa.out _).mono ?_
              rintro e w25 ⟨rfl, hbk⟩
              have HAn := Lib.hid (HA.out.below hbk HA.out.lt)
              have HBn := Lib.hid (HB.out.below hbk HB.out.lt)
              have HCn := Lib.hid (HC.out.below hbk HC.out.lt)
              have HLn := Lib.hid (HL0.out.below hbk)
              have hbv := hbw.trans (hbk.mono hbw.size)
              clear HA HB HC HL0 hbw hbk
              have HA := HAn
              have HB := HBn
              have HC := HCn
              have HL0 := HLn
              clear HAn HBn HCn HLn
              have hbw := hbv
              clear hbv
              go_wp2_with (first | (refine load_lab rfl rfl rfl HA.out ?_) | (refine load_lab rfl rfl rfl HB.out ?_) | (refine load_lab rfl rfl rfl HC.out ?_))
              refine (lab_awake _ HL0.out).mono ?_
              rintro e w90 ⟨rfl, hbk⟩
              have hbv := hbw.trans (hbk.mono hbw.size)
              go_wp2
              go_ret
              exact ⟨rfl, hbv⟩
            · obtain rfl := DT1.out rfl
              refine (Dab.out _).mono ?_
              rintro e w26 ⟨rfl, hbk⟩
              have HAn := Lib.hid (HA.out.below hbk HA.out.lt)
              have HBn := Lib.hid (HB.out.below hbk HB.out.lt)
              have HCn := Lib.hid (HC.out.below hbk HC.out.lt)
              have HLn := Lib.hid (HL0.out.below hbk)
              have hbv := hbw.trans (hbk.mono hbw.size)
              clear HA HB HC HL0 hbw hbk
              have HA := HAn
              have HB := HBn
              have HC := HCn
              have HL0 := HLn
              clear HAn HBn HCn HLn
              have hbw := hbv
              clear hbv
              go_wp2_with (first | (refine load_lab rfl rfl rfl HA.out ?_) | (refine load_lab rfl rfl rfl HB.out ?_) | (refine load_lab rfl rfl rfl HC.out ?_))
              refine (Dbc.out _).mono ?_
              rintro e w27 ⟨rfl, hbk⟩
              have HAn := Lib.hid (HA.out.below hbk HA.out.lt)
              have HBn := Lib.hid (HB.out.below hbk HB.out.lt)
              have HCn := Lib.hid (HC.out.below hbk HC.out.lt)
              have HLn := Lib.hid (HL0.out.below hbk)
              have hbv := hbw.trans (hbk.mono hbw.size)
              clear HA HB HC HL0 hbw hbk
              have HA := HAn
              have HB := HBn
              have HC := HCn
              have HL0 := HLn
              clear HAn HBn HCn HLn
              have hbw := hbv
              clear hbv
              go_wp2_with (first | (refine load_lab rfl rfl rfl HA.out ?_) | (refine load_lab rfl rfl rfl HB.out ?_) | (refine load_lab rfl rfl rfl HC.out ?_))
              refine (Dac.out _).mono ?_
              rintro e w28 ⟨rfl, hbk⟩
              have HAn := Lib.hid (HA.out.below hbk HA.out.lt)
              have HBn := Lib.hid (HB.out.below hbk HB.out.lt)
              have HCn := Lib.hid (HC.out.below hbk HC.out.lt)
              have HLn := Lib.hid (HL0.out.below hbk)
              have hbv := hbw.trans (hbk.mono hbw.size)
              clear HA HB HC HL0 hbw hbk
              have HA := HAn
              have HB := HBn
              have HC := HCn
              have HL0 := HLn
              clear HAn HBn HCn HLn
              have hbw := hbv
              clear hbv
              go_wp2_with (first | (refine load_lab rfl rfl rfl HA.out ?_) | (refine load_lab rfl rfl rfl HB.out ?_) | (refine load_lab rfl rfl rfl HC.out ?_))
              refine (Daa.out _).mono ?_
              rintro e w29 ⟨rfl, hbk⟩
              have HAn := Lib.hid (HA.out.below hbk HA.out.lt)
              have HBn := Lib.hid (HB.out.below hbk HB.out.lt)
              have HCn := Lib.hid (HC.out.below hbk HC.out.lt)
              have HLn := Lib.hid (HL0.out.below hbk)
              have hbv := hbw.trans (hbk.mono hbw.size)
              clear HA HB HC HL0 hbw hbk
              have HA := HAn
              have HB := HBn
              have HC := HCn
              have HL0 := HLn
              clear HAn HBn HCn HLn
              have hbw := hbv
              clear hbv
              go_wp2_with (first | (refine load_lab rfl rfl rfl HA.out ?_) | (refine load_lab rfl rfl rfl HB.out ?_) | (refine load_lab rfl rfl rfl HC.out ?_))
              refine (lab_awake _ HL0.out).mono ?_
              rintro e w90 ⟨rfl, hbk⟩
              have hbv := hbw.trans (hbk.mono hbw.size)
              go_wp2
              go_ret
              exact ⟨rfl, hbv⟩
          · exact absurd (DA1.out rfl) hne
    · obtain ⟨rfl, rfl⟩ := FZ'.out.1 rfl
      by_cases hY : Y ≤ 0
      · have hZ : Z ≤ 0 := FL.out (by decide) hY
        have hYd := decide_eq_true hY
        have hZd : (0 < Z) = False := eq_false (by omega)
        clear FL FX' FY' FZ' FZ3
        refine (Hba.out _).mono ?_
        rintro e w30 ⟨rfl, hbk⟩
        have HAn := Lib.hid (HA.out.below hbk HA.out.lt)
        have HBn := Lib.hid (HB.out.below hbk HB.out.lt)
        have HCn := Lib.hid (HC.out.below hbk HC.out.lt)
        have HLn := Lib.hid (HL0.out.below hbk)
        have hbv := hbw.trans (hbk.mono hbw.size)
        clear HA HB HC HL0 hbw hbk
        have HA := HAn
        have HB := HBn
        have HC := HCn
        have HL0 := HLn
        clear HAn HBn HCn HLn
        have hbw := hbv
        clear hbv
        go_wp2_with (first | (refine load_lab rfl rfl rfl HA.out ?_) | (refine load_lab rfl rfl rfl HB.out ?_) | (refine load_lab rfl rfl rfl HC.out ?_) | (refine step_opw rfl (run_op_same_lab (z := za) (n := na) rfl (by simp [Act.eval, Act.put]) (by simp [Act.eval, Act.put]) hna) ?_))
        rcases dab with _ | _
        · refine (Dab.out _).mono ?_
          rintro e w31 ⟨rfl, hbk⟩
          have HAn := Lib.hid (HA.out.below hbk HA.out.lt)
          have HBn := Lib.hid (HB.out.below hbk HB.out.lt)
          have HCn := Lib.hid (HC.out.below hbk HC.out.lt)
          have HLn := Lib.hid (HL0.out.below hbk)
          have hbv := hbw.trans (hbk.mono hbw.size)
          clear HA HB HC HL0 hbw hbk
          have HA := HAn
          have HB := HBn
          have HC := HCn
          have HL0 := HLn
          clear HAn HBn HCn HLn
          have hbw := hbv
          clear hbv
          go_wp2_with (first | (refine load_lab rfl rfl rfl HA.out ?_) | (refine load_lab rfl rfl rfl HB.out ?_) | (refine load_lab rfl rfl rfl HC.out ?_))
          refine (Dab.out _).mono ?_
          rintro e w32 ⟨rfl, hbk⟩
          have HAn := Lib.hid (HA.out.below hbk HA.out.lt)
          have HBn := Lib.hid (HB.out.below hbk HB.out.lt)
          have HCn := Lib.hid (HC.out.below hbk HC.out.lt)
          have HLn := Lib.hid (HL0.out.below hbk)
          have hbv := hbw.trans (hbk.mono hbw.size)
          clear HA HB HC HL0 hbw hbk
          have HA := HAn
          have HB := HBn
          have HC := HCn
          have HL0 := HLn
          clear HAn HBn HCn HLn
          have hbw := hbv
          clear hbv
          go_wp2_with (first | (refine load_lab rfl rfl rfl HA.out ?_) | (refine load_lab rfl rfl rfl HB.out ?_) | (refine load_lab rfl rfl rfl HC.out ?_))
          refine (Daa.out _).mono ?_
          rintro e w33 ⟨rfl, hbk⟩
          have HAn := Lib.hid (HA.out.below hbk HA.out.lt)
          have HBn := Lib.hid (HB.out.below hbk HB.out.lt)
          have HCn := Lib.hid (HC.out.below hbk HC.out.lt)
          have HLn := Lib.hid (HL0.out.below hbk)
          have hbv := hbw.trans (hbk.mono hbw.size)
          clear HA HB HC HL0 hbw hbk
          have HA := HAn
          have HB := HBn
          have HC := HCn
          have HL0 := HLn
          clear HAn HBn HCn HLn
          have hbw := hbv
          clear hbv
          go_wp2_with (first | (refine load_lab rfl rfl rfl HA.out ?_) | (refine load_lab rfl rfl rfl HB.out ?_) | (refine load_lab rfl rfl rfl HC.out ?_))
          refine (lab_awake _ HL0.out).mono ?_
          rintro e w90 ⟨rfl, hbk⟩
          have hbv := hbw.trans (hbk.mono hbw.size)
          go_wp2
          go_ret
          exact ⟨rfl, hbv⟩
        · have DA1 := Lib.hid (DA.out rfl)
          have DT1 := Lib.hid (DT.out rfl)
          clear DA DT
          refine (Dab.out _).mono ?_
          rintro e w34 ⟨rfl, hbk⟩
          have HAn := Lib.hid (HA.out.below hbk HA.out.lt)
          have HBn := Lib.hid (HB.out.below hbk HB.out.lt)
          have HCn := Lib.hid (HC.out.below hbk HC.out.lt)
          have HLn := Lib.hid (HL0.out.below hbk)
          have hbv := hbw.trans (hbk.mono hbw.size)
          clear HA HB HC HL0 hbw hbk
          have HA := HAn
          have HB := HBn
          have HC := HCn
          have HL0 := HLn
          clear HAn HBn HCn HLn
          have hbw := hbv
          clear hbv
          go_wp2_with (first | (refine load_lab rfl rfl rfl HA.out ?_) | (refine load_lab rfl rfl rfl HB.out ?_) | (refine load_lab rfl rfl rfl HC.out ?_))
          rcases dba with _ | _
          · refine (Dba.out _).mono ?_
            rintro e w35 ⟨rfl, hbk⟩
            have HAn := Lib.hid (HA.out.below hbk HA.out.lt)
            have HBn := Lib.hid (HB.out.below hbk HB.out.lt)
            have HCn := Lib.hid (HC.out.below hbk HC.out.lt)
            have HLn := Lib.hid (HL0.out.below hbk)
            have hbv := hbw.trans (hbk.mono hbw.size)
            clear HA HB HC HL0 hbw hbk
            have HA := HAn
            have HB := HBn
            have HC := HCn
            have HL0 := HLn
            clear HAn HBn HCn HLn
            have hbw := hbv
            clear hbv
            go_wp2_with (first | (refine load_lab rfl rfl rfl HA.out ?_) | (refine load_lab rfl rfl rfl HB.out ?_) | (refine load_lab rfl rfl rfl HC.out ?_))
            rcases dbc with _ | _
            · refine (Dab.out _).mono ?_
              rintro e w36 ⟨rfl, hbk⟩
              have HAn := Lib.hid (HA.out.below hbk HA.out.lt)
              have HBn := Lib.hid (HB.out.below hbk HB.out.lt)
              have HCn := Lib.hid (HC.out.below hbk HC.out.lt)
              have HLn := Lib.hid (HL0.out.below hbk)
              have hbv := hbw.trans (hbk.mono hbw.size)
              clear HA HB HC HL0 hbw hbk
              have HA := HAn
              have HB := HBn
              have HC := HCn
              have HL0 := HLn
              clear HAn HBn HCn HLn
              have hbw := hbv
              clear hbv
              go_wp2_with (first | (refine load_lab rfl rfl rfl HA.out ?_) | (refine load_lab rfl rfl rfl HB.out ?_) | (refine load_lab rfl rfl rfl HC.out ?_))
              refine (Dbc.out _).mono ?_
              rintro e w37 ⟨rfl, hbk⟩
              have HAn := Lib.hid (HA.out.below hbk HA.out.lt)
              have HBn := Lib.hid (HB.out.below hbk HB.out.lt)
              have HCn := Lib.hid (HC.out.below hbk HC.out.lt)
              have HLn := Lib.hid (HL0.out.below hbk)
              have hbv := hbw.trans (hbk.mono hbw.size)
              clear HA HB HC HL0 hbw hbk
              have HA := HAn
              have HB := HBn
              have HC := HCn
              have HL0 := HLn
              clear HAn HBn HCn HLn
              have hbw := hbv
              clear hbv
              go_wp2_with (first | (refine load_lab rfl rfl rfl HA.out ?_) | (refine load_lab rfl rfl rfl HB.out ?_) | (refine load_lab rfl rfl rfl HC.out ?_))
              refine (Daa.out _).mono ?_
              rintro e w38 ⟨rfl, hbk⟩
              have HAn := Lib.hid (HA.out.below hbk HA.out.lt)
              have HBn := Lib.hid (HB.out.below hbk HB.out.lt)
              have HCn := Lib.hid (HC.out.below hbk HC.out.lt)
              have HLn := Lib.hid (HL0.out.below hbk)
              have hbv := hbw.trans (hbk.mono hbw.size)
              clear HA HB HC HL0 hbw hbk
              have HA := HAn
              have HB := HBn
              have HC := HCn
              have HL0 := HLn
              clear HAn HBn HCn HLn
              have hbw := hbv
              clear hbv
              go_wp2_with (first | (refine load_lab rfl rfl rfl HA.out ?_) | (refine load_lab rfl rfl rfl HB.out ?_) | (refine load_lab rfl rfl rfl HC.out ?_))
              refine (lab_awake _ HL0.out).mono ?_
              rintro e w90 ⟨rfl, hbk⟩
              have hbv := hbw.trans (hbk.mono hbw.size)
              go_wp2
              go_ret
              exact ⟨rfl, hbv⟩
            · obtain rfl := DT1.out rfl
              refine (Dab.out _).mono ?_
              rintro e w39 ⟨rfl, hbk⟩
              have HAn := Lib.hid (HA.out.below hbk HA.out.lt)
              have HBn := Lib.hid (HB.out.below hbk HB.out.lt)
              have HCn := Lib.hid (HC.out.below hbk HC.out.lt)
              have HLn := Lib.hid (HL0.out.below hbk)
              have hbv := hbw.trans (hbk.mono hbw.size)
              clear HA HB HC HL0 hbw hbk
              have HA := HAn
              have HB := HBn
              have HC := HCn
              have HL0 := HLn
              clear HAn HBn HCn HLn
              have hbw := hbv
              clear hbv
              go_wp2_with (first | (refine load_lab rfl rfl rfl HA.out ?_) | (refine load_lab rfl rfl rfl HB.out ?_) | (refine load_lab rfl rfl rfl HC.out ?_))
              refine (Dbc.out _).mono ?_
              rintro e w40 ⟨rfl, hbk⟩
              have HAn := Lib.hid (HA.out.below hbk HA.out.lt)
              have HBn := Lib.hid (HB.out.below hbk HB.out.lt)
              have HCn := Lib.hid (HC.out.below hbk HC.out.lt)
              have HLn := Lib.hid (HL0.out.below hbk)
              have hbv := hbw.trans (hbk.mono hbw.size)
              clear HA HB HC HL0 hbw hbk
              have HA := HAn
              have HB := HBn
              have HC := HCn
              have HL0 := HLn
              clear HAn HBn HCn HLn
              have hbw := hbv
              clear hbv
              go_wp2_with (first | (refine load_lab rfl rfl rfl HA.out ?_) | (refine load_lab rfl rfl rfl HB.out ?_) | (refine load_lab rfl rfl rfl HC.out ?_))
              refine (Dac.out _).mono ?_
              rintro e w41 ⟨rfl, hbk⟩
              have HAn := Lib.hid (HA.out.below hbk HA.out.lt)
              have HBn := Lib.hid (HB.out.below hbk HB.out.lt)
              have HCn := Lib.hid (HC.out.below hbk HC.out.lt)
              have HLn := Lib.hid (HL0.out.below hbk)
              have hbv := hbw.trans (hbk.mono hbw.size)
              clear HA HB HC HL0 hbw hbk
              have HA := HAn
              have HB := HBn
              have HC := HCn
              have HL0 := HLn
              clear HAn HBn HCn HLn
              have hbw := hbv
              clear hbv
              go_wp2_with (first | (refine load_lab rfl rfl rfl HA.out ?_) | (refine load_lab rfl rfl rfl HB.out ?_) | (refine load_lab rfl rfl rfl HC.out ?_))
              refine (Daa.out _).mono ?_
              rintro e w42 ⟨rfl, hbk⟩
              have HAn := Lib.hid (HA.out.below hbk HA.out.lt)
              have HBn := Lib.hid (HB.out.below hbk HB.out.lt)
              have HCn := Lib.hid (HC.out.below hbk HC.out.lt)
              have HLn := Lib.hid (HL0.out.below hbk)
              have hbv := hbw.trans (hbk.mono hbw.size)
              clear HA HB HC HL0 hbw hbk
              have HA := HAn
              have HB := HBn
              have HC := HCn
              have HL0 := HLn
              clear HAn HBn HCn HLn
              have hbw := hbv
              clear hbv
              go_wp2_with (first | (refine load_lab rfl rfl rfl HA.out ?_) | (refine load_lab rfl rfl rfl HB.out ?_) | (refine load_lab rfl rfl rfl HC.out ?_))
              refine (lab_awake _ HL0.out).mono ?_
              rintro e w90 ⟨rfl, hbk⟩
              have hbv := hbw.trans (hbk.mono hbw.size)
              go_wp2
              go_ret
              exact ⟨rfl, hbv⟩
          · refine (Dba.out _).mono ?_
            rintro e w43 ⟨rfl, hbk⟩
            have HAn := Lib.hid (HA.out.below hbk HA.out.lt)
            have HBn := Lib.hid (HB.out.below hbk HB.out.lt)
            have HCn := Lib.hid (HC.out.below hbk HC.out.lt)
            have HLn := Lib.hid (HL0.out.below hbk)
            have hbv := hbw.trans (hbk.mono hbw.size)
            clear HA HB HC HL0 hbw hbk
            have HA := HAn
            have HB := HBn
            have HC := HCn
            have HL0 := HLn
            clear HAn HBn HCn HLn
            have hbw := hbv
            clear hbv
            go_wp2_with (first | (refine load_lab rfl rfl rfl HA.out ?_) | (refine load_lab rfl rfl rfl HB.out ?_) | (refine load_lab rfl rfl rfl HC.out ?_) | (refine step_opw rfl (run_op_nsame_lab (z := za) (n := na) rfl (by simp [Act.eval, Act.put]) (by simp [Act.eval, Act.put]) hna) ?_))
            rcases dbc with _ | _
            · refine (Dab.out _).mono ?_
              rintro e w44 ⟨rfl, hbk⟩
              have HAn := Lib.hid (HA.out.below hbk HA.out.lt)
              have HBn := Lib.hid (HB.out.below hbk HB.out.lt)
              have HCn := Lib.hid (HC.out.below hbk HC.out.lt)
              have HLn := Lib.hid (HL0.out.below hbk)
              have hbv := hbw.trans (hbk.mono hbw.size)
              clear HA HB HC HL0 hbw hbk
              have HA := HAn
              have HB := HBn
              have HC := HCn
              have HL0 := HLn
              clear HAn HBn HCn HLn
              have hbw := hbv
              clear hbv
              go_wp2_with (first | (refine load_lab rfl rfl rfl HA.out ?_) | (refine load_lab rfl rfl rfl HB.out ?_) | (refine load_lab rfl rfl rfl HC.out ?_))
              refine (Dbc.out _).mono ?_
              rintro e w45 ⟨rfl, hbk⟩
              have HAn := Lib.hid (HA.out.below hbk HA.out.lt)
              have HBn := Lib.hid (HB.out.below hbk HB.out.lt)
              have HCn := Lib.hid (HC.out.below hbk HC.out.lt)
              have HLn := Lib.hid (HL0.out.below hbk)
              have hbv := hbw.trans (hbk.mono hbw.size)
              clear HA HB HC HL0 hbw hbk
              have HA := HAn
              have HB := HBn
              have HC := HCn
              have HL0 := HLn
              clear HAn HBn HCn HLn
              have hbw := hbv
              clear hbv
              go_wp2_with (first | (refine load_lab rfl rfl rfl HA.out ?_) | (refine load_lab rfl rfl rfl HB.out ?_) | (refine load_lab rfl rfl rfl HC.out ?_))
              refine (Daa.out _).mono ?_
              rintro e w46 ⟨rfl, hbk⟩
              have HAn := Lib.hid (HA.out.below hbk HA.out.lt)
              have HBn := Lib.hid (HB.out.below hbk HB.out.lt)
              have HCn := Lib.hid (HC.out.below hbk HC.out.lt)
              have HLn := Lib.hid (HL0.out.below hbk)
              have hbv := hbw.trans (hbk.mono hbw.size)
              clear HA HB HC HL0 hbw hbk
              have HA := HAn
              have HB := HBn
              have HC := HCn
              have HL0 := HLn
              clear HAn HBn HCn HLn
              have hbw := hbv
              clear hbv
              go_wp2_with (first | (refine load_lab rfl rfl rfl HA.out ?_) | (refine load_lab rfl rfl rfl HB.out ?_) | (refine load_lab rfl rfl rfl HC.out ?_))
              refine (lab_awake _ HL0.out).mono ?_
              rintro e w90 ⟨rfl, hbk⟩
              have hbv := hbw.trans (hbk.mono hbw.size)
              go_wp2
              go_ret
              exact ⟨rfl, hbv⟩
            · obtain rfl := DT1.out rfl
              refine (Dab.out _).mono ?_
              rintro e w47 ⟨rfl, hbk⟩
              have HAn := Lib.hid (HA.out.below hbk HA.out.lt)
              have HBn := Lib.hid (HB.out.below hbk HB.out.lt)
              have HCn := Lib.hid (HC.out.below hbk HC.out.lt)
              have HLn := Lib.hid (HL0.out.below hbk)
              have hbv := hbw.trans (hbk.mono hbw.size)
              clear HA HB HC HL0 hbw hbk
              have HA := HAn
              have HB := HBn
              have HC := HCn
              have HL0 := HLn
              clear HAn HBn HCn HLn
              have hbw := hbv
              clear hbv
              go_wp2_with (first | (refine load_lab rfl rfl rfl HA.out ?_) | (refine load_lab rfl rfl rfl HB.out ?_) | (refine load_lab rfl rfl rfl HC.out ?_))
              refine (Dbc.out _).mono ?_
              rintro e w48 ⟨rfl, hbk⟩
              have HAn := Lib.hid (HA.out.below hbk HA.out.lt)
              have HBn := Lib.hid (HB.out.below hbk HB.out.lt)
              have HCn := Lib.hid (HC.out.below hbk HC.out.lt)
              have HLn := Lib.hid (HL0.out.below hbk)
              have hbv := hbw.trans (hbk.mono hbw.size)
              clear HA HB HC HL0 hbw hbk
              have HA := HAn
              have HB := HBn
              have HC := HCn
              have HL0 := HLn
              clear HAn HBn HCn HLn
              have hbw := hbv
              clear hbv
              go_wp2_with (first | (refine load_lab rfl rfl rfl HA.out ?_) | (refine load_lab rfl rfl rfl HB.out ?_) | (refine load_lab rfl rfl rfl HC.out ?_))
              refine (Dac.out _).mono ?_
              rintro e w49 ⟨rfl, hbk⟩
              have HAn := Lib.hid (HA.out.below hbk HA.out.lt)
              have HBn := Lib.hid (HB.out.below hbk HB.out.lt)
              have HCn := Lib.hid (HC.out.below hbk HC.out.lt)
              have HLn := Lib.hid (HL0.out.below hbk)
              have hbv := hbw.trans (hbk.mono hbw.size)
              clear HA HB HC HL0 hbw hbk
              have HA := HAn
              have HB := HBn
              have HC := HCn
              have HL0 := HLn
              clear HAn HBn HCn HLn
              have hbw := hbv
              clear hbv
              go_wp2_with (first | (refine load_lab rfl rfl rfl HA.out ?_) | (refine load_lab rfl rfl rfl HB.out ?_) | (refine load_lab rfl rfl rfl HC.out ?_))
              refine (Daa.out _).mono ?_
              rintro e w50 ⟨rfl, hbk⟩
              have HAn := Lib.hid (HA.out.below hbk HA.out.lt)
              have HBn := Lib.hid (HB.out.below hbk HB.out.lt)
              have HCn := Lib.hid (HC.out.below hbk HC.out.lt)
              have HLn := Lib.hid (HL0.out.below hbk)
              have hbv := hbw.trans (hbk.mono hbw.size)
              clear HA HB HC HL0 hbw hbk
              have HA := HAn
              have HB := HBn
              have HC := HCn
              have HL0 := HLn
              clear HAn HBn HCn HLn
              have hbw := hbv
              clear hbv
              go_wp2_with (first | (refine load_lab rfl rfl rfl HA.out ?_) | (refine load_lab rfl rfl rfl HB.out ?_) | (refine load_lab rfl rfl rfl HC.out ?_))
              refine (lab_awake _ HL0.out).mono ?_
              rintro e w90 ⟨rfl, hbk⟩
              have hbv := hbw.trans (hbk.mono hbw.size)
              go_wp2
              go_ret
              exact ⟨rfl, hbv⟩
      · have hYd := decide_eq_false hY
        clear FL FX' FY' FZ' FZ3
        refine (Hba.out _).mono ?_
        rintro e w51 ⟨rfl, hbk⟩
        have HAn := Lib.hid (HA.out.below hbk HA.out.lt)
        have HBn := Lib.hid (HB.out.below hbk HB.out.lt)
        have HCn := Lib.hid (HC.out.below hbk HC.out.lt)
        have HLn := Lib.hid (HL0.out.below hbk)
        have hbv := hbw.trans (hbk.mono hbw.size)
        clear HA HB HC HL0 hbw hbk
        have HA := HAn
        have HB := HBn
        have HC := HCn
        have HL0 := HLn
        clear HAn HBn HCn HLn
        have hbw := hbv
        clear hbv
        go_wp2_with (first | (refine load_lab rfl rfl rfl HA.out ?_) | (refine load_lab rfl rfl rfl HB.out ?_) | (refine load_lab rfl rfl rfl HC.out ?_) | (refine step_opw rfl (run_op_same_lab (z := za) (n := na) rfl (by simp [Act.eval, Act.put]) (by simp [Act.eval, Act.put]) hna) ?_))
        rcases dab with _ | _
        · refine (Dab.out _).mono ?_
          rintro e w52 ⟨rfl, hbk⟩
          have HAn := Lib.hid (HA.out.below hbk HA.out.lt)
          have HBn := Lib.hid (HB.out.below hbk HB.out.lt)
          have HCn := Lib.hid (HC.out.below hbk HC.out.lt)
          have HLn := Lib.hid (HL0.out.below hbk)
          have hbv := hbw.trans (hbk.mono hbw.size)
          clear HA HB HC HL0 hbw hbk
          have HA := HAn
          have HB := HBn
          have HC := HCn
          have HL0 := HLn
          clear HAn HBn HCn HLn
          have hbw := hbv
          clear hbv
          go_wp2_with (first | (refine load_lab rfl rfl rfl HA.out ?_) | (refine load_lab rfl rfl rfl HB.out ?_) | (refine load_lab rfl rfl rfl HC.out ?_))
          refine (Dab.out _).mono ?_
          rintro e w53 ⟨rfl, hbk⟩
          have HAn := Lib.hid (HA.out.below hbk HA.out.lt)
          have HBn := Lib.hid (HB.out.below hbk HB.out.lt)
          have HCn := Lib.hid (HC.out.below hbk HC.out.lt)
          have HLn := Lib.hid (HL0.out.below hbk)
          have hbv := hbw.trans (hbk.mono hbw.size)
          clear HA HB HC HL0 hbw hbk
          have HA := HAn
          have HB := HBn
          have HC := HCn
          have HL0 := HLn
          clear HAn HBn HCn HLn
          have hbw := hbv
          clear hbv
          go_wp2_with (first | (refine load_lab rfl rfl rfl HA.out ?_) | (refine load_lab rfl rfl rfl HB.out ?_) | (refine load_lab rfl rfl rfl HC.out ?_))
          refine (Daa.out _).mono ?_
          rintro e w54 ⟨rfl, hbk⟩
          have HAn := Lib.hid (HA.out.below hbk HA.out.lt)
          have HBn := Lib.hid (HB.out.below hbk HB.out.lt)
          have HCn := Lib.hid (HC.out.below hbk HC.out.lt)
          have HLn := Lib.hid (HL0.out.below hbk)
          have hbv := hbw.trans (hbk.mono hbw.size)
          clear HA HB HC HL0 hbw hbk
          have HA := HAn
          have HB := HBn
          have HC := HCn
          have HL0 := HLn
          clear HAn HBn HCn HLn
          have hbw := hbv
          clear hbv
          go_wp2_with (first | (refine load_lab rfl rfl rfl HA.out ?_) | (refine load_lab rfl rfl rfl HB.out ?_) | (refine load_lab rfl rfl rfl HC.out ?_))
          refine (lab_awake _ HL0.out).mono ?_
          rintro e w90 ⟨rfl, hbk⟩
          have hbv := hbw.trans (hbk.mono hbw.size)
          go_wp2
          go_ret
          exact ⟨rfl, hbv⟩
        · have DA1 := Lib.hid (DA.out rfl)
          have DT1 := Lib.hid (DT.out rfl)
          clear DA DT
          refine (Dab.out _).mono ?_
          rintro e w55 ⟨rfl, hbk⟩
          have HAn := Lib.hid (HA.out.below hbk HA.out.lt)
          have HBn := Lib.hid (HB.out.below hbk HB.out.lt)
          have HCn := Lib.hid (HC.out.below hbk HC.out.lt)
          have HLn := Lib.hid (HL0.out.below hbk)
          have hbv := hbw.trans (hbk.mono hbw.size)
          clear HA HB HC HL0 hbw hbk
          have HA := HAn
          have HB := HBn
          have HC := HCn
          have HL0 := HLn
          clear HAn HBn HCn HLn
          have hbw := hbv
          clear hbv
          go_wp2_with (first | (refine load_lab rfl rfl rfl HA.out ?_) | (refine load_lab rfl rfl rfl HB.out ?_) | (refine load_lab rfl rfl rfl HC.out ?_))
          rcases dba with _ | _
          · refine (Dba.out _).mono ?_
            rintro e w56 ⟨rfl, hbk⟩
            have HAn := Lib.hid (HA.out.below hbk HA.out.lt)
            have HBn := Lib.hid (HB.out.below hbk HB.out.lt)
            have HCn := Lib.hid (HC.out.below hbk HC.out.lt)
            have HLn := Lib.hid (HL0.out.below hbk)
            have hbv := hbw.trans (hbk.mono hbw.size)
            clear HA HB HC HL0 hbw hbk
            have HA := HAn
            have HB := HBn
            have HC := HCn
            have HL0 := HLn
            clear HAn HBn HCn HLn
            have hbw := hbv
            clear hbv
            go_wp2_with (first | (refine load_lab rfl rfl rfl HA.out ?_) | (refine load_lab rfl rfl rfl HB.out ?_) | (refine load_lab rfl rfl rfl HC.out ?_))
            rcases dbc with _ | _
            · refine (Dab.out _).mono ?_
              rintro e w57 ⟨rfl, hbk⟩
              have HAn := Lib.hid (HA.out.below hbk HA.out.lt)
              have HBn := Lib.hid (HB.out.below hbk HB.out.lt)
              have HCn := Lib.hid (HC.out.below hbk HC.out.lt)
              have HLn := Lib.hid (HL0.out.below hbk)
              have hbv := hbw.trans (hbk.mono hbw.size)
              clear HA HB HC HL0 hbw hbk
              have HA := HAn
              have HB := HBn
              have HC := HCn
              have HL0 := HLn
              clear HAn HBn HCn HLn
              have hbw := hbv
              clear hbv
              go_wp2_with (first | (refine load_lab rfl rfl rfl HA.out ?_) | (refine load_lab rfl rfl rfl HB.out ?_) | (refine load_lab rfl rfl rfl HC.out ?_))
              refine (Dbc.out _).mono ?_
              rintro e w58 ⟨rfl, hbk⟩
              have HAn := Lib.hid (HA.out.below hbk HA.out.lt)
              have HBn := Lib.hid (HB.out.below hbk HB.out.lt)
              have HCn := Lib.hid (HC.out.below hbk HC.out.lt)
              have HLn := Lib.hid (HL0.out.below hbk)
              have hbv := hbw.trans (hbk.mono hbw.size)
              clear HA HB HC HL0 hbw hbk
              have HA := HAn
              have HB := HBn
              have HC := HCn
              have HL0 := HLn
              clear HAn HBn HCn HLn
              have hbw := hbv
              clear hbv
              go_wp2_with (first | (refine load_lab rfl rfl rfl HA.out ?_) | (refine load_lab rfl rfl rfl HB.out ?_) | (refine load_lab rfl rfl rfl HC.out ?_))
              refine (Daa.out _).mono ?_
              rintro e w59 ⟨rfl, hbk⟩
              have HAn := Lib.hid (HA.out.below hbk HA.out.lt)
              have HBn := Lib.hid (HB.out.below hbk HB.out.lt)
              have HCn := Lib.hid (HC.out.below hbk HC.out.lt)
              have HLn := Lib.hid (HL0.out.below hbk)
              have hbv := hbw.trans (hbk.mono hbw.size)
              clear HA HB HC HL0 hbw hbk
              have HA := HAn
              have HB := HBn
              have HC := HCn
              have HL0 := HLn
              clear HAn HBn HCn HLn
              have hbw := hbv
              clear hbv
              go_wp2_with (first | (refine load_lab rfl rfl rfl HA.out ?_) | (refine load_lab rfl rfl rfl HB.out ?_) | (refine load_lab rfl rfl rfl HC.out ?_))
              refine (lab_awake _ HL0.out).mono ?_
              rintro e w90 ⟨rfl, hbk⟩
              have hbv := hbw.trans (hbk.mono hbw.size)
              go_wp2
              go_ret
              exact ⟨rfl, hbv⟩
            · obtain rfl := DT1.out rfl
              refine (Dab.out _).mono ?_
              rintro e w60 ⟨rfl, hbk⟩
              have HAn := Lib.hid (HA.out.below hbk HA.out.lt)
              have HBn := Lib.hid (HB.out.below hbk HB.out.lt)
              have HCn := Lib.hid (HC.out.below hbk HC.out.lt)
              have HLn := Lib.hid (HL0.out.below hbk)
              have hbv := hbw.trans (hbk.mono hbw.size)
              clear HA HB HC HL0 hbw hbk
              have HA := HAn
              have HB := HBn
              have HC := HCn
              have HL0 := HLn
              clear HAn HBn HCn HLn
              have hbw := hbv
              clear hbv
              go_wp2_with (first | (refine load_lab rfl rfl rfl HA.out ?_) | (refine load_lab rfl rfl rfl HB.out ?_) | (refine load_lab rfl rfl rfl HC.out ?_))
              refine (Dbc.out _).mono ?_
              rintro e w61 ⟨rfl, hbk⟩
              have HAn := Lib.hid (HA.out.below hbk HA.out.lt)
              have HBn := Lib.hid (HB.out.below hbk HB.out.lt)
              have HCn := Lib.hid (HC.out.below hbk HC.out.lt)
              have HLn := Lib.hid (HL0.out.below hbk)
              have hbv := hbw.trans (hbk.mono hbw.size)
              clear HA HB HC HL0 hbw hbk
              have HA := HAn
              have HB := HBn
              have HC := HCn
              have HL0 := HLn
              clear HAn HBn HCn HLn
              have hbw := hbv
              clear hbv
              go_wp2_with (first | (refine load_lab rfl rfl rfl HA.out ?_) | (refine load_lab rfl rfl rfl HB.out ?_) | (refine load_lab rfl rfl rfl HC.out ?_))
              refine (Dac.out _).mono ?_
              rintro e w62 ⟨rfl, hbk⟩
              have HAn := Lib.hid (HA.out.below hbk HA.out.lt)
              have HBn := Lib.hid (HB.out.below hbk HB.out.lt)
              have HCn := Lib.hid (HC.out.below hbk HC.out.lt)
              have HLn := Lib.hid (HL0.out.below hbk)
              have hbv := hbw.trans (hbk.mono hbw.size)
              clear HA HB HC HL0 hbw hbk
              have HA := HAn
              have HB := HBn
              have HC := HCn
              have HL0 := HLn
              clear HAn HBn HCn HLn
              have hbw := hbv
              clear hbv
              go_wp2_with (first | (refine load_lab rfl rfl rfl HA.out ?_) | (refine load_lab rfl rfl rfl HB.out ?_) | (refine load_lab rfl rfl rfl HC.out ?_))
              refine (Daa.out _).mono ?_
              rintro e w63 ⟨rfl, hbk⟩
              have HAn := Lib.hid (HA.out.below hbk HA.out.lt)
              have HBn := Lib.hid (HB.out.below hbk HB.out.lt)
              have HCn := Lib.hid (HC.out.below hbk HC.out.lt)
              have HLn := Lib.hid (HL0.out.below hbk)
              have hbv := hbw.trans (hbk.mono hbw.size)
              clear HA HB HC HL0 hbw hbk
              have HA := HAn
              have HB := HBn
              have HC := HCn
              have HL0 := HLn
              clear HAn HBn HCn HLn
              have hbw := hbv
              clear hbv
              go_wp2_with (first | (refine load_lab rfl rfl rfl HA.out ?_) | (refine load_lab rfl rfl rfl HB.out ?_) | (refine load_lab rfl rfl rfl HC.out ?_))
              refine (lab_awake _ HL0.out).mono ?_
              rintro e w90 ⟨rfl, hbk⟩
              have hbv := hbw.trans (hbk.mono hbw.size)
              go_wp2
              go_ret
              exact ⟨rfl, hbv⟩
          · refine (Dba.out _).mono ?_
            rintro e w64 ⟨rfl, hbk⟩
            have HAn := Lib.hid (HA.out.below hbk HA.out.lt)
            have HBn := Lib.hid (HB.out.below hbk HB.out.lt)
            have HCn := Lib.hid (HC.out.below hbk HC.out.lt)
            have HLn := Lib.hid (HL0.out.below hbk)
            have hbv := hbw.trans (hbk.mono hbw.size)
            clear HA HB HC HL0 hbw hbk
            have HA := HAn
            have HB := HBn
            have HC := HCn
            have HL0 := HLn
            clear HAn HBn HCn HLn
            have hbw := hbv
            clear hbv
            go_wp2_with (first | (refine load_lab rfl rfl rfl HA.out ?_) | (refine load_lab rfl rfl rfl HB.out ?_) | (refine load_lab rfl rfl rfl HC.out ?_) | (refine step_opw rfl (run_op_nsame_lab (z := za) (n := na) rfl (by simp [Act.eval, Act.put]) (by simp [Act.eval, Act.put]) hna) ?_))
            rcases dbc with _ | _
            · refine (Dab.out _).mono ?_
              rintro e w65 ⟨rfl, hbk⟩
              have HAn := Lib.hid (HA.out.below hbk HA.out.lt)
              have HBn := Lib.hid (HB.out.below hbk HB.out.lt)
              have HCn := Lib.hid (HC.out.below hbk HC.out.lt)
              have HLn := Lib.hid (HL0.out.below hbk)
              have hbv := hbw.trans (hbk.mono hbw.size)
              clear HA HB HC HL0 hbw hbk
              have HA := HAn
              have HB := HBn
              have HC := HCn
              have HL0 := HLn
              clear HAn HBn HCn HLn
              have hbw := hbv
              clear hbv
              go_wp2_with (first | (refine load_lab rfl rfl rfl HA.out ?_) | (refine load_lab rfl rfl rfl HB.out ?_) | (refine load_lab rfl rfl rfl HC.out ?_))
              refine (Dbc.out _).mono ?_
              rintro e w66 ⟨rfl, hbk⟩
              have HAn := Lib.hid (HA.out.below hbk HA.out.lt)
              have HBn := Lib.hid (HB.out.below hbk HB.out.lt)
              have HCn := Lib.hid (HC.out.below hbk HC.out.lt)
              have HLn := Lib.hid (HL0.out.below hbk)
              have hbv := hbw.trans (hbk.mono hbw.size)
              clear HA HB HC HL0 hbw hbk
              have HA := HAn
              have HB := HBn
              have HC := HCn
              have HL0 := HLn
              clear HAn HBn HCn HLn
              have hbw := hbv
              clear hbv
              go_wp2_with (first | (refine load_lab rfl rfl rfl HA.out ?_) | (refine load_lab rfl rfl rfl HB.out ?_) | (refine load_lab rfl rfl rfl HC.out ?_))
              refine (Daa.out _).mono ?_
              rintro e w67 ⟨rfl, hbk⟩
              have HAn := Lib.hid (HA.out.below hbk HA.out.lt)
              have HBn := Lib.hid (HB.out.below hbk HB.out.lt)
              have HCn := Lib.hid (HC.out.below hbk HC.out.lt)
              have HLn := Lib.hid (HL0.out.below hbk)
              have hbv := hbw.trans (hbk.mono hbw.size)
              clear HA HB HC HL0 hbw hbk
              have HA := HAn
              have HB := HBn
              have HC := HCn
              have HL0 := HLn
              clear HAn HBn HCn HLn
              have hbw := hbv
              clear hbv
              go_wp2_with (first | (refine load_lab rfl rfl rfl HA.out ?_) | (refine load_lab rfl rfl rfl HB.out ?_) | (refine load_lab rfl rfl rfl HC.out ?_))
              refine (lab_awake _ HL0.out).mono ?_
              rintro e w90 ⟨rfl, hbk⟩
              have hbv := hbw.trans (hbk.mono hbw.size)
              go_wp2
              go_ret
              exact ⟨rfl, hbv⟩
            · obtain rfl := DT1.out rfl
              refine (Dab.out _).mono ?_
              rintro e w68 ⟨rfl, hbk⟩
              have HAn := Lib.hid (HA.out.below hbk HA.out.lt)
              have HBn := Lib.hid (HB.out.below hbk HB.out.lt)
              have HCn := Lib.hid (HC.out.below hbk HC.out.lt)
              have HLn := Lib.hid (HL0.out.below hbk)
              have hbv := hbw.trans (hbk.mono hbw.size)
              clear HA HB HC HL0 hbw hbk
              have HA := HAn
              have HB := HBn
              have HC := HCn
              have HL0 := HLn
              clear HAn HBn HCn HLn
              have hbw := hbv
              clear hbv
              go_wp2_with (first | (refine load_lab rfl rfl rfl HA.out ?_) | (refine load_lab rfl rfl rfl HB.out ?_) | (refine load_lab rfl rfl rfl HC.out ?_))
              refine (Dbc.out _).mono ?_
              rintro e w69 ⟨rfl, hbk⟩
              have HAn := Lib.hid (HA.out.below hbk HA.out.lt)
              have HBn := Lib.hid (HB.out.below hbk HB.out.lt)
              have HCn := Lib.hid (HC.out.below hbk HC.out.lt)
              have HLn := Lib.hid (HL0.out.below hbk)
              have hbv := hbw.trans (hbk.mono hbw.size)
              clear HA HB HC HL0 hbw hbk
              have HA := HAn
              have HB := HBn
              have HC := HCn
              have HL0 := HLn
              clear HAn HBn HCn HLn
              have hbw := hbv
              clear hbv
              go_wp2_with (first | (refine load_lab rfl rfl rfl HA.out ?_) | (refine load_lab rfl rfl rfl HB.out ?_) | (refine load_lab rfl rfl rfl HC.out ?_))
              refine (Dac.out _).mono ?_
              rintro e w70 ⟨rfl, hbk⟩
              have HAn := Lib.hid (HA.out.below hbk HA.out.lt)
              have HBn := Lib.hid (HB.out.below hbk HB.out.lt)
              have HCn := Lib.hid (HC.out.below hbk HC.out.lt)
              have HLn := Lib.hid (HL0.out.below hbk)
              have hbv := hbw.trans (hbk.mono hbw.size)
              clear HA HB HC HL0 hbw hbk
              have HA := HAn
              have HB := HBn
              have HC := HCn
              have HL0 := HLn
              clear HAn HBn HCn HLn
              have hbw := hbv
              clear hbv
              go_wp2_with (first | (refine load_lab rfl rfl rfl HA.out ?_) | (refine load_lab rfl rfl rfl HB.out ?_) | (refine load_lab rfl rfl rfl HC.out ?_))
              refine (Daa.out _).mono ?_
              rintro e w71 ⟨rfl, hbk⟩
              have HAn := Lib.hid (HA.out.below hbk HA.out.lt)
              have HBn := Lib.hid (HB.out.below hbk HB.out.lt)
              have HCn := Lib.hid (HC.out.below hbk HC.out.lt)
              have HLn := Lib.hid (HL0.out.below hbk)
              have hbv := hbw.trans (hbk.mono hbw.size)
              clear HA HB HC HL0 hbw hbk
              have HA := HAn
              have HB := HBn
              have HC := HCn
              have HL0 := HLn
              clear HAn HBn HCn HLn
              have hbw := hbv
              clear hbv
              go_wp2_with (first | (refine load_lab rfl rfl rfl HA.out ?_) | (refine load_lab rfl rfl rfl HB.out ?_) | (refine load_lab rfl rfl rfl HC.out ?_))
              refine (lab_awake _ HL0.out).mono ?_
              rintro e w90 ⟨rfl, hbk⟩
              have hbv := hbw.trans (hbk.mono hbw.size)
              go_wp2
              go_ret
              exact ⟨rfl, hbv⟩
    · have hne : ¬ (za = zb ∧ na = nb) := fun h => absurd (FZ'.out.2 h) (by decide)
      clear FL FX' FY' FZ' FZ3
      refine (Hba.out _).mono ?_
      rintro e w72 ⟨rfl, hbk⟩
      have HAn := Lib.hid (HA.out.below hbk HA.out.lt)
      have HBn := Lib.hid (HB.out.below hbk HB.out.lt)
      have HCn := Lib.hid (HC.out.below hbk HC.out.lt)
      have HLn := Lib.hid (HL0.out.below hbk)
      have hbv := hbw.trans (hbk.mono hbw.size)
      clear HA HB HC HL0 hbw hbk
      have HA := HAn
      have HB := HBn
      have HC := HCn
      have HL0 := HLn
      clear HAn HBn HCn HLn
      have hbw := hbv
      clear hbv
      go_wp2_with (first | (refine load_lab rfl rfl rfl HA.out ?_) | (refine load_lab rfl rfl rfl HB.out ?_) | (refine load_lab rfl rfl rfl HC.out ?_) | (refine step_opw rfl (run_op_diff_lab (z := za) (z' := zb) (n := na) (m := nb) rfl (by simp [Act.eval, Act.put]) (by simp [Act.eval, Act.put]) hna hnb hne) ?_))
      rcases dab with _ | _
      · refine (Dab.out _).mono ?_
        rintro e w73 ⟨rfl, hbk⟩
        have HAn := Lib.hid (HA.out.below hbk HA.out.lt)
        have HBn := Lib.hid (HB.out.below hbk HB.out.lt)
        have HCn := Lib.hid (HC.out.below hbk HC.out.lt)
        have HLn := Lib.hid (HL0.out.below hbk)
        have hbv := hbw.trans (hbk.mono hbw.size)
        clear HA HB HC HL0 hbw hbk
        have HA := HAn
        have HB := HBn
        have HC := HCn
        have HL0 := HLn
        clear HAn HBn HCn HLn
        have hbw := hbv
        clear hbv
        go_wp2_with (first | (refine load_lab rfl rfl rfl HA.out ?_) | (refine load_lab rfl rfl rfl HB.out ?_) | (refine load_lab rfl rfl rfl HC.out ?_))
        refine (Dab.out _).mono ?_
        rintro e w74 ⟨rfl, hbk⟩
        have HAn := Lib.hid (HA.out.below hbk HA.out.lt)
        have HBn := Lib.hid (HB.out.below hbk HB.out.lt)
        have HCn := Lib.hid (HC.out.below hbk HC.out.lt)
        have HLn := Lib.hid (HL0.out.below hbk)
        have hbv := hbw.trans (hbk.mono hbw.size)
        clear HA HB HC HL0 hbw hbk
        have HA := HAn
        have HB := HBn
        have HC := HCn
        have HL0 := HLn
        clear HAn HBn HCn HLn
        have hbw := hbv
        clear hbv
        go_wp2_with (first | (refine load_lab rfl rfl rfl HA.out ?_) | (refine load_lab rfl rfl rfl HB.out ?_) | (refine load_lab rfl rfl rfl HC.out ?_))
        refine (Daa.out _).mono ?_
        rintro e w75 ⟨rfl, hbk⟩
        have HAn := Lib.hid (HA.out.below hbk HA.out.lt)
        have HBn := Lib.hid (HB.out.below hbk HB.out.lt)
        have HCn := Lib.hid (HC.out.below hbk HC.out.lt)
        have HLn := Lib.hid (HL0.out.below hbk)
        have hbv := hbw.trans (hbk.mono hbw.size)
        clear HA HB HC HL0 hbw hbk
        have HA := HAn
        have HB := HBn
        have HC := HCn
        have HL0 := HLn
        clear HAn HBn HCn HLn
        have hbw := hbv
        clear hbv
        go_wp2_with (first | (refine load_lab rfl rfl rfl HA.out ?_) | (refine load_lab rfl rfl rfl HB.out ?_) | (refine load_lab rfl rfl rfl HC.out ?_))
        refine (lab_awake _ HL0.out).mono ?_
        rintro e w90 ⟨rfl, hbk⟩
        have hbv := hbw.trans (hbk.mono hbw.size)
        go_wp2
        go_ret
        exact ⟨rfl, hbv⟩
      · have DA1 := Lib.hid (DA.out rfl)
        have DT1 := Lib.hid (DT.out rfl)
        clear DA DT
        refine (Dab.out _).mono ?_
        rintro e w76 ⟨rfl, hbk⟩
        have HAn := Lib.hid (HA.out.below hbk HA.out.lt)
        have HBn := Lib.hid (HB.out.below hbk HB.out.lt)
        have HCn := Lib.hid (HC.out.below hbk HC.out.lt)
        have HLn := Lib.hid (HL0.out.below hbk)
        have hbv := hbw.trans (hbk.mono hbw.size)
        clear HA HB HC HL0 hbw hbk
        have HA := HAn
        have HB := HBn
        have HC := HCn
        have HL0 := HLn
        clear HAn HBn HCn HLn
        have hbw := hbv
        clear hbv
        go_wp2_with (first | (refine load_lab rfl rfl rfl HA.out ?_) | (refine load_lab rfl rfl rfl HB.out ?_) | (refine load_lab rfl rfl rfl HC.out ?_))
        rcases dba with _ | _
        · refine (Dba.out _).mono ?_
          rintro e w77 ⟨rfl, hbk⟩
          have HAn := Lib.hid (HA.out.below hbk HA.out.lt)
          have HBn := Lib.hid (HB.out.below hbk HB.out.lt)
          have HCn := Lib.hid (HC.out.below hbk HC.out.lt)
          have HLn := Lib.hid (HL0.out.below hbk)
          have hbv := hbw.trans (hbk.mono hbw.size)
          clear HA HB HC HL0 hbw hbk
          have HA := HAn
          have HB := HBn
          have HC := HCn
          have HL0 := HLn
          clear HAn HBn HCn HLn
          have hbw := hbv
          clear hbv
          go_wp2_with (first | (refine load_lab rfl rfl rfl HA.out ?_) | (refine load_lab rfl rfl rfl HB.out ?_) | (refine load_lab rfl rfl rfl HC.out ?_))
          rcases dbc with _ | _
          · refine (Dab.out _).mono ?_
            rintro e w78 ⟨rfl, hbk⟩
            have HAn := Lib.hid (HA.out.below hbk HA.out.lt)
            have HBn := Lib.hid (HB.out.below hbk HB.out.lt)
            have HCn := Lib.hid (HC.out.below hbk HC.out.lt)
            have HLn := Lib.hid (HL0.out.below hbk)
            have hbv := hbw.trans (hbk.mono hbw.size)
            clear HA HB HC HL0 hbw hbk
            have HA := HAn
            have HB := HBn
            have HC := HCn
            have HL0 := HLn
            clear HAn HBn HCn HLn
            have hbw := hbv
            clear hbv
            go_wp2_with (first | (refine load_lab rfl rfl rfl HA.out ?_) | (refine load_lab rfl rfl rfl HB.out ?_) | (refine load_lab rfl rfl rfl HC.out ?_))
            refine (Dbc.out _).mono ?_
            rintro e w79 ⟨rfl, hbk⟩
            have HAn := Lib.hid (HA.out.below hbk HA.out.lt)
            have HBn := Lib.hid (HB.out.below hbk HB.out.lt)
            have HCn := Lib.hid (HC.out.below hbk HC.out.lt)
            have HLn := Lib.hid (HL0.out.below hbk)
            have hbv := hbw.trans (hbk.mono hbw.size)
            clear HA HB HC HL0 hbw hbk
            have HA := HAn
            have HB := HBn
            have HC := HCn
            have HL0 := HLn
            clear HAn HBn HCn HLn
            have hbw := hbv
            clear hbv
            go_wp2_with (first | (refine load_lab rfl rfl rfl HA.out ?_) | (refine load_lab rfl rfl rfl HB.out ?_) | (refine load_lab rfl rfl rfl HC.out ?_))
            refine (Daa.out _).mono ?_
            rintro e w80 ⟨rfl, hbk⟩
            have HAn := Lib.hid (HA.out.below hbk HA.out.lt)
            have HBn := Lib.hid (HB.out.below hbk HB.out.lt)
            have HCn := Lib.hid (HC.out.below hbk HC.out.lt)
            have HLn := Lib.hid (HL0.out.below hbk)
            have hbv := hbw.trans (hbk.mono hbw.size)
            clear HA HB HC HL0 hbw hbk
            have HA := HAn
            have HB := HBn
            have HC := HCn
            have HL0 := HLn
            clear HAn HBn HCn HLn
            have hbw := hbv
            clear hbv
            go_wp2_with (first | (refine load_lab rfl rfl rfl HA.out ?_) | (refine load_lab rfl rfl rfl HB.out ?_) | (refine load_lab rfl rfl rfl HC.out ?_))
            refine (lab_awake _ HL0.out).mono ?_
            rintro e w90 ⟨rfl, hbk⟩
            have hbv := hbw.trans (hbk.mono hbw.size)
            go_wp2
            go_ret
            exact ⟨rfl, hbv⟩
          · obtain rfl := DT1.out rfl
            refine (Dab.out _).mono ?_
            rintro e w81 ⟨rfl, hbk⟩
            have HAn := Lib.hid (HA.out.below hbk HA.out.lt)
            have HBn := Lib.hid (HB.out.below hbk HB.out.lt)
            have HCn := Lib.hid (HC.out.below hbk HC.out.lt)
            have HLn := Lib.hid (HL0.out.below hbk)
            have hbv := hbw.trans (hbk.mono hbw.size)
            clear HA HB HC HL0 hbw hbk
            have HA := HAn
            have HB := HBn
            have HC := HCn
            have HL0 := HLn
            clear HAn HBn HCn HLn
            have hbw := hbv
            clear hbv
            go_wp2_with (first | (refine load_lab rfl rfl rfl HA.out ?_) | (refine load_lab rfl rfl rfl HB.out ?_) | (refine load_lab rfl rfl rfl HC.out ?_))
            refine (Dbc.out _).mono ?_
            rintro e w82 ⟨rfl, hbk⟩
            have HAn := Lib.hid (HA.out.below hbk HA.out.lt)
            have HBn := Lib.hid (HB.out.below hbk HB.out.lt)
            have HCn := Lib.hid (HC.out.below hbk HC.out.lt)
            have HLn := Lib.hid (HL0.out.below hbk)
            have hbv := hbw.trans (hbk.mono hbw.size)
            clear HA HB HC HL0 hbw hbk
            have HA := HAn
            have HB := HBn
            have HC := HCn
            have HL0 := HLn
            clear HAn HBn HCn HLn
            have hbw := hbv
            clear hbv
            go_wp2_with (first | (refine load_lab rfl rfl rfl HA.out ?_) | (refine load_lab rfl rfl rfl HB.out ?_) | (refine load_lab rfl rfl rfl HC.out ?_))
            refine (Dac.out _).mono ?_
            rintro e w83 ⟨rfl, hbk⟩
            have HAn := Lib.hid (HA.out.below hbk HA.out.lt)
            have HBn := Lib.hid (HB.out.below hbk HB.out.lt)
            have HCn := Lib.hid (HC.out.below hbk HC.out.lt)
            have HLn := Lib.hid (HL0.out.below hbk)
            have hbv := hbw.trans (hbk.mono hbw.size)
            clear HA HB HC HL0 hbw hbk
            have HA := HAn
            have HB := HBn
            have HC := HCn
            have HL0 := HLn
            clear HAn HBn HCn HLn
            have hbw := hbv
            clear hbv
            go_wp2_with (first | (refine load_lab rfl rfl rfl HA.out ?_) | (refine load_lab rfl rfl rfl HB.out ?_) | (refine load_lab rfl rfl rfl HC.out ?_))
            refine (Daa.out _).mono ?_
            rintro e w84 ⟨rfl, hbk⟩
            have HAn := Lib.hid (HA.out.below hbk HA.out.lt)
            have HBn := Lib.hid (HB.out.below hbk HB.out.lt)
            have HCn := Lib.hid (HC.out.below hbk HC.out.lt)
            have HLn := Lib.hid (HL0.out.below hbk)
            have hbv := hbw.trans (hbk.mono hbw.size)
            clear HA HB HC HL0 hbw hbk
            have HA := HAn
            have HB := HBn
            have HC := HCn
            have HL0 := HLn
            clear HAn HBn HCn HLn
            have hbw := hbv
            clear hbv
            go_wp2_with (first | (refine load_lab rfl rfl rfl HA.out ?_) | (refine load_lab rfl rfl rfl HB.out ?_) | (refine load_lab rfl rfl rfl HC.out ?_))
            refine (lab_awake _ HL0.out).mono ?_
            rintro e w90 ⟨rfl, hbk⟩
            have hbv := hbw.trans (hbk.mono hbw.size)
            go_wp2
            go_ret
            exact ⟨rfl, hbv⟩
        · exact absurd (DA1.out rfl) hne
#print axioms turns_all
end LbTn
end Go.Proofs.YtmaddfjgiflkbaaDoor
