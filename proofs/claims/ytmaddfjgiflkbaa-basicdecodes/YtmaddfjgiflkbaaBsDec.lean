/- The walk of what reads a label's option. -/
import Derived.Test.YtmaddfjgiflkbaaBsTold
import Derived.Lib.Strings
namespace Go.Proofs.Ytmaddfjgiflkbaa
open Go.RowKit
set_option maxRecDepth 100000
set_option linter.unusedVariables false

theorem step_opw {P : Program} {ops : Array Oper} {rest : List Oper} {o : Oper} {a : Act} {w w' : World} {Q : Exit → Act → World → Prop} {v : Value} (hgd : Region.wanted o (yielded ops a.tmps) = true) (hr : (execOp a.eval o).run P w = .ok (.value v) w') (h : wpList P ops Q rest (a.put o.dst v) w') : wpList P ops Q (o :: rest) a w := by
  unfold wpList
  rw [if_pos hgd]
  refine .inl ?_
  unfold Oper.wp
  rw [hr]
  exact h
theorem run_eql_opt_in (d : Nat) (k l : Int) (s t : ByteArray) (w : World) : (Op.equalIn (d + 3) 27 (.agg (opv k s)) (.agg (opv l t))).run Try.prog w = .ok (decide (k = l) && decide (s = t)) w := by
  have hq : Try.prog.stoodInHeld 27 = false := by kernel_rfl
  rw [Op.equalIn, Sem.run_bind, run_underlying Try.underlying27]
  simp only [Result.andThen_ok]
  unfold opv
  simp [go_sem, hq]
  have hst : s.toList = t.toList ↔ s = t := ⟨fun h => by
    rw [Lib.toList_data, Lib.toList_data] at h
    exact ByteArray.ext (Array.toList_inj.1 h), fun h => by rw [h]⟩
  by_cases h1 : k = l
  · by_cases h2 : s = t
    · simp [h1, h2]
    · have h3 : ¬ s.toList = t.toList := fun h => h2 (hst.1 h)
      simp [h1, h2, h3]
  · simp [h1]
theorem run_op_neq_opt {o : Oper} {ev : Operand → Value} {w : World} {x y : Operand} {k l : Int} {s u : ByteArray} {t : TypeId} (ho : o.op = .binOp .neq 27 x y t) (hx : ev x = .agg (opv k s)) (hy : ev y = .agg (opv l u)) : (execOp ev o).run Try.prog w = .ok (.value (.bool (!(decide (k = l) && decide (s = u))))) w := by
  unfold execOp
  simp only [ho, hx, hy, Sem.run_bind]
  rw [run_eqGuard_agg w _ _ _ _ _ _ (by kernel_rfl)]
  simp only [Result.andThen_ok]
  rw [run_neq_struct, show (10000 : Nat) = 9997 + 3 from rfl, run_eql_opt_in 9997]
  simp
theorem run_op_eql_opt {o : Oper} {ev : Operand → Value} {w : World} {x y : Operand} {k l : Int} {s u : ByteArray} {t : TypeId} (ho : o.op = .binOp .eql 27 x y t) (hx : ev x = .agg (opv k s)) (hy : ev y = .agg (opv l u)) : (execOp ev o).run Try.prog w = .ok (.value (.bool (decide (k = l) && decide (s = u)))) w := by
  unfold execOp
  simp only [ho, hx, hy, Sem.run_bind]
  rw [run_eqGuard_agg w _ _ _ _ _ _ (by kernel_rfl)]
  simp only [Result.andThen_ok]
  rw [run_eql_struct, show (10000 : Nat) = 9997 + 3 from rfl, run_eql_opt_in 9997]
  simp
namespace B
def tail (s : ByteArray) : ByteArray := s.extract 1 s.size
def head (s : ByteArray) : Nat := (s.data.toList.getD 0 0).toNat
/-- Does an option's data tell a label? -/
def okD (s : ByteArray) : Bool := (lev (head s)).2 && decide (dat (lev (head s)).1 (told (tail s)) = s)
def decZ (k : Int) (s : ByteArray) : Int := if k = 130 then (if s.size = 0 then 0 else if okD s then (((lev (head s)).1 : Nat) : Int) else 0) else 0
def decN (k : Int) (s : ByteArray) : Nat := if k = 130 then (if s.size = 0 then 0 else if okD s then told (tail s) else 0) else 0
def decE (k : Int) (s : ByteArray) : Nat := if k = 130 then (if s.size = 0 then 2 else if okD s then 0 else 3) else 3
theorem lev_lt (b : Nat) : (lev b).1 < 4 := by unfold lev; split <;> (try split) <;> (try split) <;> (try split) <;> decide
theorem told_err (z : Nat) (s : ByteArray) (h : z < 4) : errN z (told s) = 0 := by
  have := told_most s
  unfold errN fits
  rw [if_pos (by omega), decide_eq_true (by omega), decide_eq_true (show (z : Int) < 4 by omega), decide_eq_true this]
  rfl
end B
namespace BsDec
theorem vs_cons {n : Nat} (vs : List Value) (h : vs.length = n + 1) : ∃ v r, vs = v :: r ∧ r.length = n := by
  cases vs with
  | nil => simp at h
  | cons v r => exact ⟨v, r, rfl, by simpa using h⟩
theorem vs_7 (vs : List Value) (h : vs.length = 7) : ∃ v0 v1 v2 v3 v4 v5 v6, vs = [v0, v1, v2, v3, v4, v5, v6] := by
  obtain ⟨v0, r0, rfl, h0⟩ := vs_cons vs h
  obtain ⟨v1, r1, rfl, h1⟩ := vs_cons r0 h0
  obtain ⟨v2, r2, rfl, h2⟩ := vs_cons r1 h1
  obtain ⟨v3, r3, rfl, h3⟩ := vs_cons r2 h2
  obtain ⟨v4, r4, rfl, h4⟩ := vs_cons r3 h3
  obtain ⟨v5, r5, rfl, h5⟩ := vs_cons r4 h4
  obtain ⟨v6, r6, rfl, h6⟩ := vs_cons r5 h5
  obtain rfl := List.eq_nil_of_length_eq_zero h6
  exact ⟨v0, v1, v2, v3, v4, v5, v6, rfl⟩

set_option maxHeartbeats 8000000 in
theorem dec_any (k : Int) (s : ByteArray) (w : World) (hl : s.size ≤ 100000) :
    Calls Try.prog 10 #[.agg (opv k s)] w fun e w' => e = .returned (.tuple #[.agg (L.lv (B.decZ k s) (B.decN k s)), .int .i64 (B.decE k s : Nat)]) ∧ Below w.heap.size w w' := by
  have hb0 : Below w.heap.size w ((w.alloc (.cells (opv k s) 27)).alloc (.cells (L.lv 0 0) 25)) := ((Below.refl _ w).alloc (Nat.le_refl _) _).alloc (by simp) _
  have HO : Hid (OptAt ((w.alloc (.cells (opv k s) 27)).alloc (.cells (L.lv 0 0) 25)) w.heap.size k s) := Lib.hid ((OptAt.new w k s).alloc _)
  have HL : Hid (LabAt ((w.alloc (.cells (opv k s) 27)).alloc (.cells (L.lv 0 0) 25)) (w.heap.size + 1) 0 0) := Lib.hid (by have := LabAt.new (w.alloc (.cells (opv k s) 27)) 0 0; simpa using this)
  obtain ⟨DZ, hDZ⟩ : ∃ x, B.decZ k s = x := ⟨_, rfl⟩
  obtain ⟨DN, hDN⟩ : ∃ x, B.decN k s = x := ⟨_, rfl⟩
  obtain ⟨DE, hDE⟩ : ∃ x, B.decE k s = x := ⟨_, rfl⟩
  have HDZ := Lib.hid hDZ
  have HDN := Lib.hid hDN
  have HDE := Lib.hid hDE
  rw [hDZ, hDN, hDE]
  clear hDZ hDN hDE
  have hkind := HO.out.kind
  have hdata := HO.out.data
  have zL := HL.out.lt
  by_cases hk : k = 130
  · by_cases hs0 : s.size = 0
    · have G1 : Hid (B.decZ k s = 0) := Lib.hid (by unfold B.decZ; rw [if_pos hk, if_pos hs0])
      have G2 : Hid (B.decN k s = 0) := Lib.hid (by unfold B.decN; rw [if_pos hk, if_pos hs0])
      have G3 : Hid (B.decE k s = 2) := Lib.hid (by unfold B.decE; rw [if_pos hk, if_pos hs0])
      unfold opv at *
      have hemp : s = ⟨#[]⟩ := by
        apply ByteArray.ext
        exact Array.eq_empty_of_size_eq_zero hs0
      subst hk
      subst hemp
      go_enter Try.func10, Try.ntmps10
      go_wp2_with (rw [L.zero31]; refine store_lab rfl rfl rfl rfl HL.out ?_; intro w3 hs ho; have HL3 := Lib.hid hs; have ho3 := Lib.hid ho; clear hs ho)
      exact ret_lab_tmp rfl rfl rfl rfl HL3.out ⟨by rw [← HDZ.out, ← HDN.out, ← HDE.out, G1.out, G2.out, G3.out]; rfl, hb0.trans (ho3.out.below (by omega))⟩
    · have hne : ¬ s = ⟨#[]⟩ := fun h => hs0 (by rw [h]; rfl)
      have hix : ∀ w : World, (Instr.index 9 (.string s) (.int .i64 0)).run Try.prog w = .ok (.int .u8 (B.head s : Nat)) w := fun w => by
        rw [run_index_string w _ _ _ _ Try.underlying9, dif_pos ⟨by omega, by omega⟩]
        have : (s[(0 : Int).toNat]'(by simp; omega)).toNat = B.head s := by
          unfold B.head
          rw [List.getD_eq_getElem?_getD, List.getElem?_eq_getElem (by rw [Array.length_toList]; show 0 < s.size; omega)]
          rfl
        rw [this]
      have hh : B.head s < 256 := UInt8.toNat_lt _
      have Hlev := Lib.hid (fun w => level_any (B.head s) w hh)
      have hl4 := B.lev_lt (B.head s)
      have G1 : Hid (B.decZ k s = if B.okD s then (((B.lev (B.head s)).1 : Nat) : Int) else 0) := Lib.hid (by unfold B.decZ; rw [if_pos hk, if_neg hs0])
      have G2 : Hid (B.decN k s = if B.okD s then B.told (B.tail s) else 0) := Lib.hid (by unfold B.decN; rw [if_pos hk, if_neg hs0])
      have G3 : Hid (B.decE k s = if B.okD s then 0 else 3) := Lib.hid (by unfold B.decE; rw [if_pos hk, if_neg hs0])
      have Gok : Hid (B.okD s = ((B.lev (B.head s)).2 && decide (B.dat (B.lev (B.head s)).1 (B.told (B.tail s)) = s))) := Lib.hid rfl
      have hne' : ¬ s.toList = [] := fun h => hne (by
        rw [Lib.toList_data] at h
        exact ByteArray.ext (Array.toList_inj.1 h))
      have hnb : (s.toList == ([] : List UInt8)) = false := by rw [beq_eq_false_iff_ne]; exact hne'
      have hnb2 : s.toList.isEmpty = false := by rw [List.isEmpty_eq_false_iff]; exact hne'
      have htl : (B.tail s).size ≤ 100000 := by unfold B.tail; rw [ByteArray.size_extract]; omega
      have HT := Lib.hid (fun w => told_any (B.tail s) w htl)
      have HTL : Hid (∀ w : World, (Instr.slice 9 (.string s) (some (.int .i64 1)) none none).run Try.prog w = .ok (.string (B.tail s)) w) := Lib.hid (fun w => by
        have h1 : (0 : Int) ≤ 1 ∧ (1 : Int) ≤ s.size := ⟨by omega, by omega⟩
        rw [run_slice_string_from_if w _ _ _ _ Try.underlying9]
        simp only [h1, and_self, if_pos]
        rfl)
      have HE := Lib.hid (fun w => BsEnc.enc_any (B.lev (B.head s)).1 (B.told (B.tail s)) w (B.toldTo_lt _ 28))
      have hE0 := B.told_err (B.lev (B.head s)).1 (B.tail s) hl4
      have hkd : BsEnc.kd (B.lev (B.head s)).1 (B.told (B.tail s)) = 130 := by unfold BsEnc.kd; rw [if_pos hE0]
      have hst : B.str (B.lev (B.head s)).1 (B.told (B.tail s)) = B.dat (B.lev (B.head s)).1 (B.told (B.tail s)) := by unfold B.str; rw [if_pos hE0]
      rw [hE0, hkd, hst] at HE
      clear hE0 hkd hst hs0 hne htl
      generalize hq : B.lev (B.head s) = q at *
      obtain ⟨lv, ok⟩ := q
      simp only at Hlev G1 Gok HE hl4
      generalize B.head s = hd at *
      generalize B.told (B.tail s) = m at *
      generalize B.tail s = tl at *
      generalize B.dat lv m = dd at *
      generalize B.okD s = okd at *
      clear hq
      have hopv : opv k s = #[.int .i64 k, .string s] := rfl
      subst hk
      go_enter Try.func10, Try.ntmps10
      unfold opv at *
      go_wp2_with fail
      rw [L.zero31]
      refine (Hlev.out _).mono ?_
      rintro e w1 ⟨rfl, hb1⟩
      have HO1 := Lib.hid (HO.out.below hb1 HO.out.lt)
      have HL1 := Lib.hid (HL.out.below hb1 HL.out.lt)
      have hbw1 := hb0.trans (hb1.mono hb0.size)
      have hz1 := hbw1.size
      clear hb1 HO HL hb0 hkind hdata zL hix hne' hnb hnb2 Hlev
      have hdata := HO1.out.data
      have htl := HTL.out
      have zL1 := HL1.out.lt
      have zO1 := HO1.out.lt
      go_wp2_with fail
      refine (HT.out _).mono ?_
      rintro e w3 ⟨rfl, hb3⟩
      have HO3 := Lib.hid (HO1.out.below hb3 zO1)
      have HL3 := Lib.hid (HL1.out.below hb3 zL1)
      have hbw3 := hbw1.trans (hb3.mono hz1)
      have hz3 := hb3.size
      have HB := Lib.hid (LabAt.new w3 0 0)
      clear hb3 HO1 HL1 hbw1 HT HTL htl hdata
      go_wp2_with (first | (refine step_op rfl (run_op_build_lab (z := ((lv : Nat) : Int)) (n := m) rfl (by simp [Act.eval, Act.put]) (by simp [Act.eval, Act.put])) ?_) | (rw [L.zero31]; refine store_lab rfl rfl rfl rfl HB.out ?_; intro w4 hs ho; have HB4 := Lib.hid hs; have ho4 := Lib.hid ho; clear hs ho) | (refine load_lab rfl rfl rfl HB4.out ?_))
      · have HO3' := Lib.hid (HO3.out.alloc (.cells (L.lv 0 0) 25))
        have HL3' := Lib.hid (HL3.out.alloc (.cells (L.lv 0 0) 25))
        have hbw3' := hbw3.alloc hbw3.size (.cells (L.lv 0 0) 25)
        have hz3' := hbw3.size
        clear HO3 HL3 hbw3
        have HO3 := HO3'
        have HL3 := HL3'
        have hbw3 := hbw3'
        clear HO3' HL3' hbw3'
        have HO4 := Lib.hid (HO3.out.only ho4.out (by omega))
        have HL4 := Lib.hid (HL3.out.only ho4.out (by omega))
        have hbw4 := hbw3.trans (ho4.out.below (by omega))
        clear HB HO3 HL3 hbw3 ho4
        refine (HE.out _).mono ?_
        rintro e w5 ⟨rfl, hb5⟩
        have HB5 := Lib.hid (HB4.out.below hb5 HB4.out.lt)
        have HO5 := Lib.hid (HO4.out.below hb5 HO4.out.lt)
        have HL5 := Lib.hid (HL4.out.below hb5 HL4.out.lt)
        have hbw5 := hbw4.trans (hb5.mono hbw4.size)
        have HN := Lib.hid (OptAt.new w5 0 ⟨#[]⟩)
        clear hb5 HB4 HO4 HL4 hbw4 HE
        have zB5 := HB5.out.lt
        have zO5 := HO5.out.lt
        have zL5 := HL5.out.lt
        cases ok
        · have Gk : Hid (okd = false) := Lib.hid (by rw [Gok.out]; rfl)
          go_wp2_with (first | (refine store_opt rfl rfl rfl rfl HN.out ?_; intro w6 hs ho; have HN6 := Lib.hid hs; have ho6 := Lib.hid ho; have HO6 := Lib.hid ((HO5.out.alloc (.cells #[.int .i64 0, .string ⟨#[]⟩] 27)).only ho (by omega)); have HL6 := Lib.hid ((HL5.out.alloc (.cells #[.int .i64 0, .string ⟨#[]⟩] 27)).only ho (by omega)); have HB6 := Lib.hid ((HB5.out.alloc (.cells #[.int .i64 0, .string ⟨#[]⟩] 27)).only ho (by omega)); clear hs ho) | (rw [L.zero31]; refine store_lab rfl rfl rfl rfl HL6.out ?_; intro w7 hs ho; have HL7 := Lib.hid hs; have ho7 := Lib.hid ho; clear hs ho))
          exact ret_lab_tmp rfl rfl rfl rfl HL7.out ⟨by rw [← HDZ.out, ← HDN.out, ← HDE.out, G1.out, G2.out, G3.out, Gk.out]; rfl, ((hbw5.alloc hbw5.size _).trans (ho6.out.below hbw5.size)).trans (ho7.out.below (by omega))⟩
        · have Gok' := Gok.out
          rw [Bool.true_and] at Gok'
          by_cases hsame : dd = s
          · have Gk : Hid (okd = true) := Lib.hid (by rw [Gok', decide_eq_true hsame])
            have hd2 : decide (dd = s) = true := decide_eq_true hsame
            clear hsame Gok'
            go_wp2_with (first | (refine store_opt rfl rfl rfl rfl HN.out ?_; intro w6 hs ho; have HN6 := Lib.hid hs; have ho6 := Lib.hid ho; have HO6 := Lib.hid ((HO5.out.alloc (.cells #[.int .i64 0, .string ⟨#[]⟩] 27)).only ho (by omega)); have HL6 := Lib.hid ((HL5.out.alloc (.cells #[.int .i64 0, .string ⟨#[]⟩] 27)).only ho (by omega)); have HB6 := Lib.hid ((HB5.out.alloc (.cells #[.int .i64 0, .string ⟨#[]⟩] 27)).only ho (by omega)); clear hs ho) | (refine load_opt rfl rfl rfl HN6.out ?_) | (refine load_opt rfl rfl rfl HO6.out ?_) | (refine step_opw rfl (run_op_neq_opt (k := 130) (l := 130) (s := dd) (u := s) rfl (by simp [Act.eval, Act.put, opv]) (by simp [Act.eval, Act.put, opv])) ?_; rw [hd2]) | (refine load_lab rfl rfl rfl HB6.out ?_) | (refine store_lab rfl rfl rfl rfl HL6.out ?_; intro w7 hs ho; have HL7 := Lib.hid hs; have ho7 := Lib.hid ho; clear hs ho))
            exact ret_lab_tmp rfl rfl rfl rfl HL7.out ⟨by rw [← HDZ.out, ← HDN.out, ← HDE.out, G1.out, G2.out, G3.out, Gk.out]; rfl, ((hbw5.alloc hbw5.size _).trans (ho6.out.below hbw5.size)).trans (ho7.out.below (by omega))⟩
          · have Gk : Hid (okd = false) := Lib.hid (by rw [Gok', decide_eq_false hsame])
            have hd2 : decide (dd = s) = false := decide_eq_false hsame
            clear hsame Gok'
            go_wp2_with (first | (refine store_opt rfl rfl rfl rfl HN.out ?_; intro w6 hs ho; have HN6 := Lib.hid hs; have ho6 := Lib.hid ho; have HO6 := Lib.hid ((HO5.out.alloc (.cells #[.int .i64 0, .string ⟨#[]⟩] 27)).only ho (by omega)); have HL6 := Lib.hid ((HL5.out.alloc (.cells #[.int .i64 0, .string ⟨#[]⟩] 27)).only ho (by omega)); have HB6 := Lib.hid ((HB5.out.alloc (.cells #[.int .i64 0, .string ⟨#[]⟩] 27)).only ho (by omega)); clear hs ho) | (refine load_opt rfl rfl rfl HN6.out ?_) | (refine load_opt rfl rfl rfl HO6.out ?_) | (refine step_opw rfl (run_op_neq_opt (k := 130) (l := 130) (s := dd) (u := s) rfl (by simp [Act.eval, Act.put, opv]) (by simp [Act.eval, Act.put, opv])) ?_; rw [hd2]) | (rw [L.zero31]; refine store_lab rfl rfl rfl rfl HL6.out ?_; intro w7 hs ho; have HL7 := Lib.hid hs; have ho7 := Lib.hid ho; clear hs ho))
            exact ret_lab_tmp rfl rfl rfl rfl HL7.out ⟨by rw [← HDZ.out, ← HDN.out, ← HDE.out, G1.out, G2.out, G3.out, Gk.out]; rfl, ((hbw5.alloc hbw5.size _).trans (ho6.out.below hbw5.size)).trans (ho7.out.below (by omega))⟩
  · have G1 : Hid (B.decZ k s = 0) := Lib.hid (by unfold B.decZ; rw [if_neg hk])
    have G2 : Hid (B.decN k s = 0) := Lib.hid (by unfold B.decN; rw [if_neg hk])
    have G3 : Hid (B.decE k s = 3) := Lib.hid (by unfold B.decE; rw [if_neg hk])
    unfold opv at *
    go_enter Try.func10, Try.ntmps10
    go_wp2_with (rw [L.zero31]; refine store_lab rfl rfl rfl rfl HL.out ?_; intro w3 hs ho; have HL3 := Lib.hid hs; have ho3 := Lib.hid ho; clear hs ho)
    exact ret_lab_tmp rfl rfl rfl rfl HL3.out ⟨by rw [← HDZ.out, ← HDN.out, ← HDE.out, G1.out, G2.out, G3.out]; rfl, hb0.trans (ho3.out.below (by omega))⟩
end BsDec
end Go.Proofs.Ytmaddfjgiflkbaa
