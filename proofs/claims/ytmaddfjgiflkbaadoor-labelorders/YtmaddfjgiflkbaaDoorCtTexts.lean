/- The walk of CatsTexts. -/
import Derived.Test.YtmaddfjgiflkbaaDoorCtBack
namespace Go.Proofs.YtmaddfjgiflkbaaDoor
set_option maxRecDepth 100000
open Go.RowKit
set_option maxRecDepth 100000
set_option linter.unusedVariables false

theorem step_opq {P : Program} {ops : Array Oper} {rest : List Oper} {o : Oper} {a : Act} {w w' : World} {Q : Exit → Act → World → Prop} {v : Value} (hgd : Region.wanted o (yielded ops a.tmps) = true) (hr : (execOp a.eval o).run P w = .ok (.value v) w') (h : wpList P ops Q rest (a.put o.dst v) w') : wpList P ops Q (o :: rest) a w := by
  unfold wpList
  rw [if_pos hgd]
  refine .inl ?_
  unfold Oper.wp
  rw [hr]
  exact h

set_option maxHeartbeats 8000000 in
theorem texts_all (c : Nat) (s : ByteArray) (w : World) (hc : c < 2 ^ 240) (hs : s.size ≤ maxLen) (L : LaidF w) :
    Calls Tryd.prog 4 #[.agg (C.cv c), .string s] w fun e w' => e = .returned (.bool true) ∧ Below w.heap.size w w' := by
  have HA := Lib.hid (SetAt.new w c)
  have hb0 : Below w.heap.size w (w.alloc (.cells (C.cv c) 23)) := (Below.refl _ w).alloc (Nat.le_refl _) _
  have HL0 := Lib.hid (L.below hb0)
  unfold maxLen at hs
  clear L
  by_cases hlen : 200 < s.size
  · have hlen' : (200 : Int) < (s.size : Int) := by omega
    go_enter Tryd.func4, Tryd.ntmps4
    go_wp2_with fail
    refine (cats_awake _ HL0.out.tabl).mono ?_
    rintro e w1 ⟨rfl, hb1⟩
    have hbw := hb0.trans (hb1.mono hb0.size)
    go_wp2
    go_ret
    exact ⟨rfl, hbw⟩
  have hlen' : ¬ (200 : Int) < (s.size : Int) := by omega
  have HT := Lib.hid (fun w L => Text_any c w L)
  have HR := Lib.hid (fun w => RText_any c w)
  have hts : (bs (C.text c)).size ≤ 100000 := by
    show (bs (C.text c)).data.size ≤ _
    have h1 := C.text_runs c
    have h2 := C.join_len c
    rw [h1]
    split <;> simp [bs] <;> omega
  have HP1 := Lib.hid (fun w L => Parse_any (bs (C.text c)) w L hts)
  have hpt : C.parseIs (bs (C.text c)) = #[.agg (C.cv c), .bool true] := by unfold C.parseIs; rw [C.parse_text c hc]
  rw [hpt] at HP1
  have HP2 := Lib.hid (fun w L => Parse_any s w L (by omega))
  have hps : (∃ y, C.parse s = some y ∧ C.parseIs s = #[.agg (C.cv y), .bool true] ∧ bs (C.text y) = s ∧ y < 2 ^ 240) ∨ (C.parseIs s = #[.agg (C.cv 0), .bool false]) := by
    cases hp : C.parse s with
    | none => right; unfold C.parseIs; rw [hp]
    | some y => left; exact ⟨y, rfl, by unfold C.parseIs; rw [hp], C.text_parse s y hp, C.parse_lt s y hp⟩
  clear hpt hts
  generalize bs (C.text c) = t at *
  have h00 : (0 : Nat) < 2 ^ 240 := Nat.pow_pos (by decide)
  go_enter Tryd.func4, Tryd.ntmps4
  go_wp2_with (refine load_set rfl rfl rfl HA.out ?_)
  refine (HT.out _ HL0.out.tabl).mono ?_
  rintro e w1 ⟨rfl, hb1⟩
  have HA1 := Lib.hid (HA.out.below hb1 HA.out.lt)
  have HL1 := Lib.hid (HL0.out.below hb1)
  have hbw1 := hb0.trans (hb1.mono hb0.size)
  clear hb1 hb0 HA HL0 HT
  go_wp2_with fail
  refine (HP1.out _ HL1.out).mono ?_
  rintro e w2 ⟨rfl, hb2⟩
  have HA2 := Lib.hid (HA1.out.below hb2 HA1.out.lt)
  have HL2 := Lib.hid (HL1.out.below hb2)
  have hbw2 := hbw1.trans (hb2.mono hbw1.size)
  have zA := HA2.out.lt
  have hz2 := hbw2.size
  have zL := HL2.out.tabl.size
  have HN := Lib.hid (SetAt.new w2 0)
  clear hb2 hbw1 HA1 HL1 HP1
  go_wp2_with (rw [C.zero30]; refine store_set rfl rfl rfl rfl HN.out ?_; intro w3 hs3 ho3; have HX3 := Lib.hid hs3; have HA3 := Lib.hid ((HA2.out.alloc (.cells (C.cv 0) 23)).only ho3 (by omega)); have HO3 := Lib.hid ho3; clear hs3 ho3)
  have hb23 : Below w2.heap.size w2 w3 := ((Below.refl _ w2).alloc (Nat.le_refl _) _).trans (HO3.out.below (Nat.le_refl _))
  have HL3 := Lib.hid (HL2.out.below hb23)
  have hbw3 := hbw2.trans (hb23.mono hz2)
  clear hb23 HO3 HA2 HL2 HN hbw2
  refine (HP2.out _ HL3.out).mono ?_
  rintro e w4 ⟨rfl, hb4⟩
  have HA4 := Lib.hid (HA3.out.below hb4 HA3.out.lt)
  have HX4 := Lib.hid (HX3.out.below hb4 HX3.out.lt)
  have HL4 := Lib.hid (HL3.out.below hb4)
  have hbw4 := hbw3.trans (hb4.mono hbw3.size)
  have zA4 := HA4.out.lt
  have zX4 := HX4.out.lt
  have hz4 := hbw4.size
  have HN4 := Lib.hid (SetAt.new w4 0)
  clear hb4 hbw3 HA3 HX3 HL3 HP2
  generalize w2.heap.size = g6 at *
  rcases hps with ⟨y, _, e2, hty, hy⟩ | e2
  all_goals
    rw [e2]
    clear e2
  · have HRy := Lib.hid (fun w => RText_any y w)
    rw [hty] at HRy
    go_wp2_with (first | (rw [C.zero30]; refine store_set rfl rfl rfl rfl HN4.out ?_; intro w5 hs5 ho5; have HY5 := Lib.hid hs5; have HA5 := Lib.hid ((HA4.out.alloc (.cells (C.cv 0) 23)).only ho5 (by omega)); have HX5 := Lib.hid ((HX4.out.alloc (.cells (C.cv 0) 23)).only ho5 (by omega)); have HO5 := Lib.hid ho5; clear hs5 ho5) | (refine load_set rfl rfl rfl HA5.out ?_))
    have hb45 : Below w4.heap.size w4 w5 := ((Below.refl _ w4).alloc (Nat.le_refl _) _).trans (HO5.out.below (Nat.le_refl _))
    have HL5 := Lib.hid (HL4.out.below hb45)
    have hbw5 := hbw4.trans (hb45.mono hz4)
    clear hb45 HO5 HA4 HX4 HL4 HN4 hbw4
    refine (HR.out _).mono ?_
    rintro e w6 ⟨rfl, hb6⟩
    have HA6 := Lib.hid (HA5.out.below hb6 HA5.out.lt)
    have HX6 := Lib.hid (HX5.out.below hb6 HX5.out.lt)
    have HY6 := Lib.hid (HY5.out.below hb6 HY5.out.lt)
    have HL6 := Lib.hid (HL5.out.below hb6)
    have hbw6 := hbw5.trans (hb6.mono hbw5.size)
    clear hb6 hbw5 HA5 HX5 HY5 HL5 HR
    go_wp2_with (first | (refine load_set rfl rfl rfl HX6.out ?_) | (refine load_set rfl rfl rfl HA6.out ?_) | (refine load_set rfl rfl rfl HY6.out ?_) | (refine step_opq rfl (run_op_same (n := c) rfl (by simp [Act.eval, Act.put]) (by simp [Act.eval, Act.put]) hc) ?_))
    refine (HRy.out _).mono ?_
    rintro e w7 ⟨rfl, hb7⟩
    have HL7 := Lib.hid (HL6.out.below hb7)
    have hbw7 := hbw6.trans (hb7.mono hbw6.size)
    go_wp2_with fail
    refine (cats_awake _ HL7.out.tabl).mono ?_
    rintro e w8 ⟨rfl, hb8⟩
    have hbw8 := hbw7.trans (hb8.mono hbw7.size)
    go_wp2
    go_ret
    exact ⟨rfl, hbw8⟩
  · go_wp2_with (first | (rw [C.zero30]; refine store_set rfl rfl rfl rfl HN4.out ?_; intro w5 hs5 ho5; have HY5 := Lib.hid hs5; have HA5 := Lib.hid ((HA4.out.alloc (.cells (C.cv 0) 23)).only ho5 (by omega)); have HX5 := Lib.hid ((HX4.out.alloc (.cells (C.cv 0) 23)).only ho5 (by omega)); have HO5 := Lib.hid ho5; clear hs5 ho5) | (refine load_set rfl rfl rfl HA5.out ?_))
    have hb45 : Below w4.heap.size w4 w5 := ((Below.refl _ w4).alloc (Nat.le_refl _) _).trans (HO5.out.below (Nat.le_refl _))
    have HL5 := Lib.hid (HL4.out.below hb45)
    have hbw5 := hbw4.trans (hb45.mono hz4)
    clear hb45 HO5 HA4 HX4 HL4 HN4 hbw4
    refine (HR.out _).mono ?_
    rintro e w6 ⟨rfl, hb6⟩
    have HA6 := Lib.hid (HA5.out.below hb6 HA5.out.lt)
    have HX6 := Lib.hid (HX5.out.below hb6 HX5.out.lt)
    have HY6 := Lib.hid (HY5.out.below hb6 HY5.out.lt)
    have HL6 := Lib.hid (HL5.out.below hb6)
    have hbw6 := hbw5.trans (hb6.mono hbw5.size)
    clear hb6 hbw5 HA5 HX5 HY5 HL5 HR
    go_wp2_with (first | (refine load_set rfl rfl rfl HX6.out ?_) | (refine load_set rfl rfl rfl HA6.out ?_) | (refine load_set rfl rfl rfl HY6.out ?_) | (rw [C.zero30]; refine step_opq rfl (run_op_same (n := 0) rfl (by simp [Act.eval]) (by simp [Act.eval]) h00) ?_) | (refine step_opq rfl (run_op_same (n := c) rfl (by simp [Act.eval, Act.put]) (by simp [Act.eval, Act.put]) hc) ?_))
    refine (cats_awake _ HL6.out.tabl).mono ?_
    rintro e w8 ⟨rfl, hb8⟩
    have hbw8 := hbw6.trans (hb8.mono hbw6.size)
    go_wp2
    go_ret
    exact ⟨rfl, hbw8⟩
#print axioms texts_all
end Go.Proofs.YtmaddfjgiflkbaaDoor
