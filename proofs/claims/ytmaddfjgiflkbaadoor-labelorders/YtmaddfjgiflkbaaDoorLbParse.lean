/- The walk of what reads a label's text. -/
import Derived.Test.YtmaddfjgiflkbaaDoorLbLow
import Derived.Test.YtmaddfjgiflkbaaDoorCtParse
namespace Go.Proofs.YtmaddfjgiflkbaaDoor
set_option maxRecDepth 100000
open Go.RowKit
set_option maxRecDepth 100000
set_option linter.unusedVariables false
namespace L
def lvlOf (s : ByteArray) : ByteArray := ⟨(Lib.cut s.data.toList [58]).1.toArray⟩
def setOf (s : ByteArray) : ByteArray := ⟨(Lib.cut s.data.toList [58]).2.1.toArray⟩
/-- The label that a text is read as. -/
def parse (s : ByteArray) : Option (Int × Nat) := match Lib.atoiAll (lvlOf s).data.toList with
  | .ok v => match C.parse (setOf s) with
    | some c => if text v c = s then some (v, c) else none
    | none => none
  | _ => none
def parseIs (s : ByteArray) : Array Value := match parse s with
  | some (z, n) => #[.agg (lv z n), .bool true]
  | none => #[.agg (lv 0 0), .bool false]
theorem cut_size (s : ByteArray) : (lvlOf s).size ≤ s.size ∧ (setOf s).size ≤ s.size := by
  have h : (Lib.cut s.data.toList [58]).1.length ≤ s.data.toList.length ∧ (Lib.cut s.data.toList [58]).2.1.length ≤ s.data.toList.length := by
    unfold Lib.cut
    split <;> simp <;> omega
  have e : s.data.toList.length = s.size := Array.length_toList
  rw [e] at h
  constructor
  · show (Lib.cut s.data.toList [58]).1.toArray.size ≤ _
    simpa using h.1
  · show (Lib.cut s.data.toList [58]).2.1.toArray.size ≤ _
    simpa using h.2
end L

set_option maxHeartbeats 8000000 in
theorem LParse_any (s : ByteArray) (w : World) (Ld : LaidF w) (hl : s.size ≤ 100000) :
    Calls Tryd.prog 36 #[.string s] w fun e w' => e = .returned (.tuple (L.parseIs s)) ∧ Below w.heap.size w w' := by
  have hcs := L.cut_size s
  have HA := Lib.hid (LabAt.new w 0 0)
  have hb0 : Below w.heap.size w (w.alloc (.cells (L.lv 0 0) 39)) := (Below.refl _ w).alloc (Nat.le_refl _) _
  have HL0 := Lib.hid (Ld.below hb0)
  obtain ⟨m, hm⟩ := HL0.out.most
  have HCut : Hid (Calls Tryd.prog 61 #[.string s, .string ⟨#[58]⟩] (w.alloc (.cells (L.lv 0 0) 39)) fun e w' => e = .returned (.tuple #[.string (L.lvlOf s), .string (L.setOf s), .bool (Lib.cut s.data.toList [58]).2.2]) ∧ ∃ n, w' = (w.alloc (.cells (L.lv 0 0) 39)).drewN n) := Lib.hid (Tryd.strings_Cut s ⟨#[58]⟩ m _ (by omega) hm)
  have HP0 := Lib.hid (fun w Ld => Parse_any (L.setOf s) w Ld (by omega))
  have hps : ∃ (x : Nat) (b : Bool), C.parseIs (L.setOf s) = #[.agg (C.cv x), .bool b] ∧ (b = true → C.parse (L.setOf s) = some x) ∧ (b = false → C.parse (L.setOf s) = none) := by
    cases hp : C.parse (L.setOf s) with
    | none => exact ⟨0, false, by unfold C.parseIs; rw [hp], fun h => by simp at h, fun _ => rfl⟩
    | some y => exact ⟨y, true, by unfold C.parseIs; rw [hp], fun _ => rfl, fun h => by simp at h⟩
  obtain ⟨x, b, hpi, hyes, hno⟩ := hps
  rw [hpi] at HP0
  have HP := HP0
  obtain ⟨R, hR⟩ : ∃ R, L.parseIs s = R := ⟨_, rfl⟩
  have HR := Lib.hid hR
  rw [hR]
  clear hR hm Ld hpi HP0
  have hle : (L.lvlOf s).size ≤ 100000 := by omega
  have HPar : Hid (L.parse s = match Lib.atoiAll (L.lvlOf s).data.toList with | .ok v => (match C.parse (L.setOf s) with | some c => if L.text v c = s then some (v, c) else none | none => none) | _ => none) := Lib.hid rfl
  have HIs : Hid (L.parseIs s = match L.parse s with | some (z, n) => #[.agg (L.lv z n), .bool true] | none => #[.agg (L.lv 0 0), .bool false]) := Lib.hid rfl
  generalize L.lvlOf s = lvl at *
  generalize L.setOf s = st at *
  generalize (Lib.cut s.data.toList [58]).2.2 = fnd at *
  clear hcs
  have HB := Lib.hid (fun n => below_drewN (Below.refl (w.alloc (.cells (L.lv 0 0) 39)).heap.size (w.alloc (.cells (L.lv 0 0) 39))) n)
  go_enter Tryd.func36, Tryd.ntmps36
  go_wp2_with fail
  rw [L.zero31]
  refine HCut.out.mono ?_
  rintro e w1 ⟨rfl, n, rfl⟩
  have hb1 := HB.out n
  have HL1 := Lib.hid (HL0.out.below hb1)
  have HA1 := Lib.hid (HA.out.below hb1 HA.out.lt)
  have hbw1 := hb0.trans (hb1.mono hb0.size)
  generalize (w.alloc (.cells (L.lv 0 0) 39)).drewN n = w1 at *
  clear HL0 HA hb0 hb1 HB HCut
  obtain ⟨⟨ts, ps, hsyn⟩, ⟨tr, pr, hran⟩⟩ := And.intro HL1.out.syn HL1.out.ran
  cases ha : Lib.atoiAll lvl.data.toList with
  | ok v =>
    have HYes : Hid (b = true → R = if L.text v x = s then #[.agg (L.lv v x), .bool true] else #[.agg (L.lv 0 0), .bool false]) := Lib.hid (fun h => by rw [← HR.out, HIs.out, HPar.out, ha]; simp only [hyes h]; by_cases e : L.text v x = s <;> simp [e])
    have HNo : Hid (b = false → R = #[.agg (L.lv 0 0), .bool false]) := Lib.hid (fun h => by rw [← HR.out, HIs.out, HPar.out, ha]; simp only [hno h])
    have HAt := Lib.hid ha
    clear hsyn hran ha hyes hno HPar HIs HR
    go_wp2_with fail
    refine (Tryd.strconv_Atoi_ok lvl (by omega) v HAt.out w1).mono ?_
    rintro e w2 ⟨rfl, hbb⟩
    have hb2 := below_bytesC hbb
    clear hbb HAt
    cases b
    · have GNO : Hid (R = #[.agg (L.lv 0 0), .bool false]) := Lib.hid (HNo.out rfl)
      have HL2 := Lib.hid (HL1.out.below hb2)
      have HA2 := Lib.hid (HA1.out.below hb2 HA1.out.lt)
      have hbw2 := hbw1.trans (hb2.mono hbw1.size)
      clear hb2 HA1 HL1
      go_wp2_with fail
      refine (HP.out _ HL2.out).mono ?_
      rintro e w3 ⟨rfl, hb3⟩
      have HL3 := Lib.hid (HL2.out.below hb3)
      have HA3 := Lib.hid (HA2.out.below hb3 HA2.out.lt)
      have hbw3 := hbw2.trans (hb3.mono hbw2.size)
      have zA := HA3.out.lt
      have hz3 := hbw3.size
      have zL := HL3.out.tabl.size
      have HN := Lib.hid (SetAt.new w3 0)
      have HN2 : Hid (∀ w4, Only w3.heap.size (w3.alloc (.cells (C.cv 0) 23)) w4 → LabAt (w4.alloc (.cells (L.lv 0 0) 39)) w4.heap.size 0 0) := Lib.hid (fun w4 _ => LabAt.new w4 0 0)
      clear hb3 HA2 HL2 hbw2 HP
      go_wp2_with (first | (rw [C.zero30]; refine store_set rfl rfl rfl rfl HN.out ?_; intro w4 hs ho; have HX4 := Lib.hid hs; have HA4 := Lib.hid ((HA3.out.alloc (.cells (C.cv 0) 23)).only ho (by omega)); have HL4 := Lib.hid ((HL3.out.below ((Below.refl _ w3).alloc (Nat.le_refl _) (.cells (C.cv 0) 23))).only ho (by omega)); have HN4 := Lib.hid (LabAt.new w4 0 0); have hb34 : Below w.heap.size w w4 := (hbw3.alloc hz3 (.cells (C.cv 0) 23)).trans (ho.below (by omega)); clear hs ho) | (refine load_set rfl rfl rfl HX4.out ?_) | (refine step_op rfl (run_op_build_lab (z := v) (n := x) rfl (by simp [Act.eval, Act.put]) (by simp [Act.eval, Act.put])) ?_) | (rw [L.zero31]; refine store_lab rfl rfl rfl rfl HN4.out ?_; intro w5 hs ho; have HT5 := Lib.hid hs; have HA5 := Lib.hid ((HA4.out.alloc (.cells (L.lv 0 0) 39)).only ho (by have := HA4.out.lt; omega)); have HL5 := Lib.hid ((HL4.out.below ((Below.refl _ w4).alloc (Nat.le_refl _) (.cells (L.lv 0 0) 39))).only ho (by have := HL4.out.tabl.size; omega)); have hb5 : Below w.heap.size w w5 := (hb34.alloc hb34.size (.cells (L.lv 0 0) 39)).trans (ho.below hb34.size); clear hs ho) | (refine load_lab rfl rfl rfl HT5.out ?_) | (rw [L.zero31]; refine store_lab rfl rfl rfl rfl HA5.out ?_; intro w6 hs ho; have HA6 := Lib.hid hs; have ho6 := Lib.hid ho; clear hs ho))
      exact ret_lab_tmp rfl rfl rfl rfl HA6.out ⟨by rw [GNO.out]; rfl, hb5.trans (ho6.out.below (Nat.le_refl _))⟩
    · have Hc := Lib.hid (HYes.out rfl)
      have HL2 := Lib.hid (HL1.out.below hb2)
      have HA2 := Lib.hid (HA1.out.below hb2 HA1.out.lt)
      have hbw2 := hbw1.trans (hb2.mono hbw1.size)
      clear hb2 HA1 HL1
      go_wp2_with fail
      refine (HP.out _ HL2.out).mono ?_
      rintro e w3 ⟨rfl, hb3⟩
      have HL3 := Lib.hid (HL2.out.below hb3)
      have HA3 := Lib.hid (HA2.out.below hb3 HA2.out.lt)
      have hbw3 := hbw2.trans (hb3.mono hbw2.size)
      have zA := HA3.out.lt
      have hz3 := hbw3.size
      have zL := HL3.out.tabl.size
      have HN := Lib.hid (SetAt.new w3 0)
      have HN2 : Hid (∀ w4, Only w3.heap.size (w3.alloc (.cells (C.cv 0) 23)) w4 → LabAt (w4.alloc (.cells (L.lv 0 0) 39)) w4.heap.size 0 0) := Lib.hid (fun w4 _ => LabAt.new w4 0 0)
      clear hb3 HA2 HL2 hbw2 HP
      go_wp2_with (first | (rw [C.zero30]; refine store_set rfl rfl rfl rfl HN.out ?_; intro w4 hs ho; have HX4 := Lib.hid hs; have HA4 := Lib.hid ((HA3.out.alloc (.cells (C.cv 0) 23)).only ho (by omega)); have HL4 := Lib.hid ((HL3.out.below ((Below.refl _ w3).alloc (Nat.le_refl _) (.cells (C.cv 0) 23))).only ho (by omega)); have HN4 := Lib.hid (LabAt.new w4 0 0); have hb34 : Below w.heap.size w w4 := (hbw3.alloc hz3 (.cells (C.cv 0) 23)).trans (ho.below (by omega)); clear hs ho) | (refine load_set rfl rfl rfl HX4.out ?_) | (refine step_op rfl (run_op_build_lab (z := v) (n := x) rfl (by simp [Act.eval, Act.put]) (by simp [Act.eval, Act.put])) ?_) | (rw [L.zero31]; refine store_lab rfl rfl rfl rfl HN4.out ?_; intro w5 hs ho; have HT5 := Lib.hid hs; have HA5 := Lib.hid ((HA4.out.alloc (.cells (L.lv 0 0) 39)).only ho (by have := HA4.out.lt; omega)); have HL5 := Lib.hid ((HL4.out.below ((Below.refl _ w4).alloc (Nat.le_refl _) (.cells (L.lv 0 0) 39))).only ho (by have := HL4.out.tabl.size; omega)); have hb5 : Below w.heap.size w w5 := (hb34.alloc hb34.size (.cells (L.lv 0 0) 39)).trans (ho.below hb34.size); clear hs ho) | (refine load_lab rfl rfl rfl HT5.out ?_))
      have HTx := Lib.hid (fun w Tb => LText_any v x w Tb)
      refine (HTx.out _ HL5.out.tabl).mono ?_
      rintro e w7 ⟨rfl, hb7⟩
      have HA7 := Lib.hid (HA5.out.below hb7 HA5.out.lt)
      have HT7 := Lib.hid (HT5.out.below hb7 HT5.out.lt)
      have hbw7 := hb5.trans (hb7.mono hb5.size)
      clear hb7 HA5 HT5 HTx HL5 hb5
      by_cases hts : L.text v x = s
      · have G : Hid (R = #[.agg (L.lv v x), .bool true]) := Lib.hid (by rw [Hc.out, if_pos hts])
        rw [hts]
        go_wp2_with (first | (refine load_lab rfl rfl rfl HT7.out ?_) | (refine store_lab rfl rfl rfl rfl HA7.out ?_; intro w8 hs ho; have HA8 := Lib.hid hs; have ho8 := Lib.hid ho; clear hs ho))
        exact ret_lab_tmp rfl rfl rfl rfl HA8.out ⟨by rw [G.out]; rfl, hbw7.trans (ho8.out.below (Nat.le_refl _))⟩
      · have G : Hid (R = #[.agg (L.lv 0 0), .bool false]) := Lib.hid (by rw [Hc.out, if_neg hts])
        have hneq : ((L.text v x).toList == s.toList) = false := by
          rw [beq_eq_false_iff_ne]
          intro h
          rw [Lib.toList_data, Lib.toList_data] at h
          exact hts (ByteArray.ext (Array.toList_inj.1 h))
        generalize L.text v x = t at *
        go_wp2_with (rw [L.zero31]; refine store_lab rfl rfl rfl rfl HA7.out ?_; intro w8 hs ho; have HA8 := Lib.hid hs; have ho8 := Lib.hid ho; clear hs ho)
        exact ret_lab_tmp rfl rfl rfl rfl HA8.out ⟨by rw [G.out]; rfl, hbw7.trans (ho8.out.below (Nat.le_refl _))⟩
  | «syntax» =>
    have GNO : Hid (R = #[.agg (L.lv 0 0), .bool false]) := Lib.hid (by rw [← HR.out, HIs.out, HPar.out, ha])
    have HAt := Lib.hid ha
    clear hran ha hyes hno HPar HIs HR
    go_wp2_with fail
    refine (Tryd.strconv_Atoi_syntax lvl (by omega) HAt.out _ w1 hsyn (.inr ⟨_, _, rfl⟩)).mono ?_
    rintro e w2 ⟨N, rfl, hN, hblk, hb2⟩
    clear hblk hN hsyn HAt
    have HL2 := Lib.hid (HL1.out.below hb2)
    have HA2 := Lib.hid (HA1.out.below hb2 HA1.out.lt)
    have hbw2 := hbw1.trans (hb2.mono hbw1.size)
    clear hb2 HA1 HL1
    go_wp2_with fail
    refine (HP.out _ HL2.out).mono ?_
    rintro e w3 ⟨rfl, hb3⟩
    have HL3 := Lib.hid (HL2.out.below hb3)
    have HA3 := Lib.hid (HA2.out.below hb3 HA2.out.lt)
    have hbw3 := hbw2.trans (hb3.mono hbw2.size)
    have zA := HA3.out.lt
    have hz3 := hbw3.size
    have zL := HL3.out.tabl.size
    have HN := Lib.hid (SetAt.new w3 0)
    have HN2 : Hid (∀ w4, Only w3.heap.size (w3.alloc (.cells (C.cv 0) 23)) w4 → LabAt (w4.alloc (.cells (L.lv 0 0) 39)) w4.heap.size 0 0) := Lib.hid (fun w4 _ => LabAt.new w4 0 0)
    clear hb3 HA2 HL2 hbw2 HP
    go_wp2_with (first | (rw [C.zero30]; refine store_set rfl rfl rfl rfl HN.out ?_; intro w4 hs ho; have HX4 := Lib.hid hs; have HA4 := Lib.hid ((HA3.out.alloc (.cells (C.cv 0) 23)).only ho (by omega)); have HL4 := Lib.hid ((HL3.out.below ((Below.refl _ w3).alloc (Nat.le_refl _) (.cells (C.cv 0) 23))).only ho (by omega)); have HN4 := Lib.hid (LabAt.new w4 0 0); have hb34 : Below w.heap.size w w4 := (hbw3.alloc hz3 (.cells (C.cv 0) 23)).trans (ho.below (by omega)); clear hs ho) | (refine load_set rfl rfl rfl HX4.out ?_) | (refine step_op rfl (run_op_build_lab (z := 0) (n := x) rfl (by simp [Act.eval, Act.put]) (by simp [Act.eval, Act.put])) ?_) | (rw [L.zero31]; refine store_lab rfl rfl rfl rfl HN4.out ?_; intro w5 hs ho; have HT5 := Lib.hid hs; have HA5 := Lib.hid ((HA4.out.alloc (.cells (L.lv 0 0) 39)).only ho (by have := HA4.out.lt; omega)); have HL5 := Lib.hid ((HL4.out.below ((Below.refl _ w4).alloc (Nat.le_refl _) (.cells (L.lv 0 0) 39))).only ho (by have := HL4.out.tabl.size; omega)); have hb5 : Below w.heap.size w w5 := (hb34.alloc hb34.size (.cells (L.lv 0 0) 39)).trans (ho.below hb34.size); clear hs ho) | (refine load_lab rfl rfl rfl HT5.out ?_) | (rw [L.zero31]; refine store_lab rfl rfl rfl rfl HA5.out ?_; intro w6 hs ho; have HA6 := Lib.hid hs; have ho6 := Lib.hid ho; clear hs ho))
    exact ret_lab_tmp rfl rfl rfl rfl HA6.out ⟨by rw [GNO.out]; rfl, hb5.trans (ho6.out.below (Nat.le_refl _))⟩
  | range =>
    have GNO : Hid (R = #[.agg (L.lv 0 0), .bool false]) := Lib.hid (by rw [← HR.out, HIs.out, HPar.out, ha])
    have HAt := Lib.hid ha
    clear hsyn ha hyes hno HPar HIs HR
    go_wp2_with fail
    refine (Tryd.strconv_Atoi_range lvl (by omega) HAt.out _ w1 hran (.inr ⟨_, _, rfl⟩)).mono ?_
    rintro e w2 ⟨N, rfl, hN, hblk, hb2⟩
    clear hblk hN hran HAt
    generalize Lib.atoiSat lvl.data.toList = q at *
    have HL2 := Lib.hid (HL1.out.below hb2)
    have HA2 := Lib.hid (HA1.out.below hb2 HA1.out.lt)
    have hbw2 := hbw1.trans (hb2.mono hbw1.size)
    clear hb2 HA1 HL1
    go_wp2_with fail
    refine (HP.out _ HL2.out).mono ?_
    rintro e w3 ⟨rfl, hb3⟩
    have HL3 := Lib.hid (HL2.out.below hb3)
    have HA3 := Lib.hid (HA2.out.below hb3 HA2.out.lt)
    have hbw3 := hbw2.trans (hb3.mono hbw2.size)
    have zA := HA3.out.lt
    have hz3 := hbw3.size
    have zL := HL3.out.tabl.size
    have HN := Lib.hid (SetAt.new w3 0)
    have HN2 : Hid (∀ w4, Only w3.heap.size (w3.alloc (.cells (C.cv 0) 23)) w4 → LabAt (w4.alloc (.cells (L.lv 0 0) 39)) w4.heap.size 0 0) := Lib.hid (fun w4 _ => LabAt.new w4 0 0)
    clear hb3 HA2 HL2 hbw2 HP
    go_wp2_with (first | (rw [C.zero30]; refine store_set rfl rfl rfl rfl HN.out ?_; intro w4 hs ho; have HX4 := Lib.hid hs; have HA4 := Lib.hid ((HA3.out.alloc (.cells (C.cv 0) 23)).only ho (by omega)); have HL4 := Lib.hid ((HL3.out.below ((Below.refl _ w3).alloc (Nat.le_refl _) (.cells (C.cv 0) 23))).only ho (by omega)); have HN4 := Lib.hid (LabAt.new w4 0 0); have hb34 : Below w.heap.size w w4 := (hbw3.alloc hz3 (.cells (C.cv 0) 23)).trans (ho.below (by omega)); clear hs ho) | (refine load_set rfl rfl rfl HX4.out ?_) | (refine step_op rfl (run_op_build_lab (z := q) (n := x) rfl (by simp [Act.eval, Act.put]) (by simp [Act.eval, Act.put])) ?_) | (rw [L.zero31]; refine store_lab rfl rfl rfl rfl HN4.out ?_; intro w5 hs ho; have HT5 := Lib.hid hs; have HA5 := Lib.hid ((HA4.out.alloc (.cells (L.lv 0 0) 39)).only ho (by have := HA4.out.lt; omega)); have HL5 := Lib.hid ((HL4.out.below ((Below.refl _ w4).alloc (Nat.le_refl _) (.cells (L.lv 0 0) 39))).only ho (by have := HL4.out.tabl.size; omega)); have hb5 : Below w.heap.size w w5 := (hb34.alloc hb34.size (.cells (L.lv 0 0) 39)).trans (ho.below hb34.size); clear hs ho) | (refine load_lab rfl rfl rfl HT5.out ?_) | (rw [L.zero31]; refine store_lab rfl rfl rfl rfl HA5.out ?_; intro w6 hs ho; have HA6 := Lib.hid hs; have ho6 := Lib.hid ho; clear hs ho))
    exact ret_lab_tmp rfl rfl rfl rfl HA6.out ⟨by rw [GNO.out]; rfl, hb5.trans (ho6.out.below (Nat.le_refl _))⟩
#print axioms LParse_any
end Go.Proofs.YtmaddfjgiflkbaaDoor
