/- The walk of BasicEncodes. -/
import Derived.Test.YtmaddfjgiflkbaaBsSizes
import Derived.Test.YtmaddfjgiflkbaaCtWithin
namespace Go.Proofs.Ytmaddfjgiflkbaa
open Go.RowKit
set_option maxRecDepth 100000
set_option linter.unusedVariables false

namespace B
open C
theorem tail_dat (z : Int) (n : Nat) : tail (dat z n) = nb (au n) := by
  unfold tail dat nb
  apply ByteArray.ext
  rw [ByteArray.data_extract]
  show Array.extract _ 1 _ = _
  simp only [List.map_cons]
  apply Array.ext_getElem?
  intro i
  rw [Array.getElem?_extract]
  by_cases h : i < (au n).length
  · rw [if_pos (by simp [ByteArray.size]; omega)]
    simp
    rw [show 1 + i = i + 1 by omega]
    simp
  · rw [if_neg (by simp [ByteArray.size]; omega)]
    rw [Array.getElem?_eq_none (by simpa using h)]
theorem told_au (n : Nat) (hn : n < 2 ^ 240) (hm : mostTo n 240 ≤ 27) : told (nb (au n)) = n := by
  refine ext (toldTo_lt _ 28) hn fun k hk => ?_
  unfold told
  rw [has_told _ k 28 (by omega)]
  by_cases h28 : k < 28
  · rw [decide_eq_true h28, Bool.true_and]
    have hv := v_bit n (k / 7) (k % 7) (by omega) (by omega)
    rw [show 7 * (k / 7) + k % 7 = k by omega] at hv
    unfold tb
    by_cases hl : k / 7 < len n
    · have hs : (nb (au n)).size = len n := by rw [BsEnc.nb_size]; unfold au; rw [List.length_map, List.length_range]
      rw [hs, decide_eq_true hl, Bool.true_and]
      have hg : ((nb (au n)).data.toList.getD (k / 7) 0).toNat = ab n (k / 7) := by
        unfold nb au
        rw [List.getD_eq_getElem?_getD]
        simp [hl]
        have := ab_lt n (k / 7)
        omega
      rw [hg, ← hv, show 7 - k % 7 = (6 - k % 7) + 1 by omega]
      unfold ab
      rw [Nat.testBit_succ]
      congr 1
      split <;> omega
    · have hz := v_over n (k / 7) (by omega) (by omega)
      rw [hz, Nat.zero_testBit] at hv
      have hs : (nb (au n)).size = len n := by rw [BsEnc.nb_size]; unfold au; rw [List.length_map, List.length_range]
      rw [hs, decide_eq_false hl, ← hv]
      rfl
  · rw [decide_eq_false h28, Bool.false_and]
    cases hh : hasN n k with
    | false => rfl
    | true =>
      have := most_has n 240 k hk hh
      omega
theorem back (z : Int) (n : Nat) (hn : n < 2 ^ 240) (h0 : 0 ≤ z) (h4 : z < 4) (hm : mostTo n 240 ≤ 27) : decZ 130 (dat z n) = z ∧ decN 130 (dat z n) = n ∧ decE 130 (dat z n) = 0 := by
  have hs : ¬ (dat z n).size = 0 := by rw [dat_size]; omega
  have hl := lev_is z h0 h4
  have hok : okD (dat z n) = true := by
    unfold okD
    rw [head_is, hl, tail_dat, told_au n hn hm]
    simp only [Bool.true_and]
    rw [Int.toNat_of_nonneg h0]
    exact decide_eq_true rfl
  refine ⟨?_, ?_, ?_⟩
  · unfold decZ; rw [if_pos rfl, if_neg hs, if_pos hok, head_is, hl]; show ((z.toNat : Nat) : Int) = z; omega
  · unfold decN; rw [if_pos rfl, if_neg hs, if_pos hok, tail_dat, told_au n hn hm]
  · unfold decE; rw [if_pos rfl, if_neg hs, if_pos hok]
end B

set_option maxHeartbeats 8000000 in
theorem encodes_all (z : Int) (n : Nat) (w : World) (hn : n < 2 ^ 240) :
    Calls Try.prog 3 #[.agg (L.lv z n)] w fun e w' => e = .returned (.bool true) ∧ Below w.heap.size w w' := by
  have HB := Lib.hid (LabAt.new w z n)
  have hb0 : Below w.heap.size w (w.alloc (.cells (L.lv z n) 25)) := (Below.refl _ w).alloc (Nat.le_refl _) _
  have HE := Lib.hid (fun w => BsEnc.enc_any z n w hn)
  have HD := Lib.hid (fun w => refData_any z n w hn)
  have HF := Lib.hid (fun w => BsFits.fits_any z n w)
  rcases B.err_cases z n with ⟨h0, hz0, hz4, h27, hf⟩ | ⟨h0, h5, hf⟩
  · have hkd : BsEnc.kd z n = 130 := by unfold BsEnc.kd; rw [if_pos h0]
    have hst : B.str z n = B.dat z n := by unfold B.str; rw [if_pos h0]
    have hbk := B.back z n hn hz0 hz4 h27
    have HDec := Lib.hid (fun w hl => BsDec.dec_any 130 (B.dat z n) w hl)
    rw [hbk.1, hbk.2.1, hbk.2.2] at HDec
    have hds : (B.dat z n).size ≤ 100000 := by have := B.dat_size z n; have := B.len_le n h27; omega
    rw [hf] at HF
    rw [h0, hkd, hst] at HE
    rw [h0, hst] at HD
    clear hbk hf h0 hkd hst
    generalize B.dat z n = d at *
    go_enter Try.func3, Try.ntmps3
    go_wp2_with (refine load_lab rfl rfl rfl HB.out ?_)
    refine (HE.out _).mono ?_
    rintro e w1 ⟨rfl, hb1⟩
    have HB1 := Lib.hid (HB.out.below hb1 HB.out.lt)
    have hbw1 := hb0.trans (hb1.mono hb0.size)
    have hz1 := hbw1.size
    have HN := Lib.hid (OptAt.new w1 0 ⟨#[]⟩)
    have zB := HB1.out.lt
    clear hb0 hb1 HB HE
    unfold opv
    go_wp2_with (first | (refine store_opt rfl rfl rfl rfl HN.out ?_; intro w2 hs ho; have HO2 := Lib.hid hs; have HB2 := Lib.hid ((HB1.out.alloc (.cells #[.int .i64 0, .string ⟨#[]⟩] 27)).only ho (by omega)); have ho2 := Lib.hid ho; clear hs ho) | (refine load_lab rfl rfl rfl HB2.out ?_))
    have hbw2 := (hbw1.alloc hz1 (.cells #[.int .i64 0, .string ⟨#[]⟩] 27)).trans (ho2.out.below (by omega))
    clear HN HB1 ho2
    refine (HD.out _).mono ?_
    rintro e w3 ⟨rfl, hb3⟩
    have HB3 := Lib.hid (HB2.out.below hb3 HB2.out.lt)
    have HO3 := Lib.hid (HO2.out.below hb3 HO2.out.lt)
    have hbw3 := hbw2.trans (hb3.mono hbw2.size)
    clear HB2 HO2 hb3 HD hbw2 hbw1
    have hdata := HO3.out.data
    have hkind := HO3.out.kind
    go_wp2_with (refine load_lab rfl rfl rfl HB3.out ?_)
    refine (HF.out _).mono ?_
    rintro e w4 ⟨rfl, hb4⟩
    have HB4 := Lib.hid (HB3.out.below hb4 HB3.out.lt)
    have HO4 := Lib.hid (HO3.out.below hb4 HO3.out.lt)
    have hbw4 := hbw3.trans (hb4.mono hbw3.size)
    clear HB3 HO3 hb4 hdata hkind HF hbw3
    have hkind := HO4.out.kind
    go_wp2_with (refine load_opt rfl rfl rfl HO4.out ?_)
    refine (HDec.out _ hds).mono ?_
    rintro e w5 ⟨rfl, hb5⟩
    have HB5 := Lib.hid (HB4.out.below hb5 HB4.out.lt)
    have hbw5 := hbw4.trans (hb5.mono hbw4.size)
    have HN := Lib.hid (LabAt.new w5 0 0)
    have zB5 := HB5.out.lt
    have hz5 := hbw5.size
    clear HB4 HO4 hb5 hbw4 HDec hkind
    go_wp2_with (first | (rw [L.zero31]; refine store_lab rfl rfl rfl rfl HN.out ?_; intro w6 hs ho; have HN6 := Lib.hid hs; have HB6 := Lib.hid ((HB5.out.alloc (.cells (L.lv 0 0) 25)).only ho (by omega)); have ho6 := Lib.hid ho; clear hs ho) | (refine load_lab rfl rfl rfl HN6.out ?_) | (refine load_lab rfl rfl rfl HB6.out ?_) | (refine step_opw rfl (run_op_eql_lab (z := z) (z' := z) (n := n) (m := n) rfl (by simp [Act.eval, Act.put]) (by simp [Act.eval, Act.put]) hn hn) ?_))
    refine (bs_awake _).mono ?_
    rintro e w7 ⟨rfl, hb7⟩
    have hbw6 : Below w.heap.size w w6 := (hbw5.alloc hz5 _).trans (ho6.out.below (by omega))
    have hbw7 := hbw6.trans (hb7.mono hbw6.size)
    go_wp2
    go_ret
    exact ⟨rfl, hbw7⟩
  · have hkd : BsEnc.kd z n = 0 := by unfold BsEnc.kd; rw [if_neg h0]
    have hst : B.str z n = ⟨#[]⟩ := by unfold B.str; rw [if_neg h0]
    have hne : ((B.errN z n : Nat) : Int) ≠ 0 := by omega
    have hneb : (((B.errN z n : Nat) : Int) == 0) = false := by rw [beq_eq_false_iff_ne]; exact hne
    rw [hf] at HF
    rw [hkd, hst] at HE
    rw [hst] at HD
    clear hf h0 hkd hst h5
    generalize B.errN z n = E at *
    go_enter Try.func3, Try.ntmps3
    go_wp2_with (refine load_lab rfl rfl rfl HB.out ?_)
    refine (HE.out _).mono ?_
    rintro e w1 ⟨rfl, hb1⟩
    have HB1 := Lib.hid (HB.out.below hb1 HB.out.lt)
    have hbw1 := hb0.trans (hb1.mono hb0.size)
    have hz1 := hbw1.size
    have HN := Lib.hid (OptAt.new w1 0 ⟨#[]⟩)
    have zB := HB1.out.lt
    clear hb0 hb1 HB HE
    unfold opv
    go_wp2_with (first | (refine store_opt rfl rfl rfl rfl HN.out ?_; intro w2 hs ho; have HO2 := Lib.hid hs; have HB2 := Lib.hid ((HB1.out.alloc (.cells #[.int .i64 0, .string ⟨#[]⟩] 27)).only ho (by omega)); have ho2 := Lib.hid ho; clear hs ho) | (refine load_lab rfl rfl rfl HB2.out ?_))
    have hbw2 := (hbw1.alloc hz1 (.cells #[.int .i64 0, .string ⟨#[]⟩] 27)).trans (ho2.out.below (by omega))
    clear HN HB1 ho2
    refine (HD.out _).mono ?_
    rintro e w3 ⟨rfl, hb3⟩
    have HB3 := Lib.hid (HB2.out.below hb3 HB2.out.lt)
    have HO3 := Lib.hid (HO2.out.below hb3 HO2.out.lt)
    have hbw3 := hbw2.trans (hb3.mono hbw2.size)
    clear HB2 HO2 hb3 HD hbw2 hbw1
    have hdata := HO3.out.data
    have hkind := HO3.out.kind
    go_wp2_with (refine load_lab rfl rfl rfl HB3.out ?_)
    refine (HF.out _).mono ?_
    rintro e w4 ⟨rfl, hb4⟩
    have HO4 := Lib.hid (HO3.out.below hb4 HO3.out.lt)
    have hbw4 := hbw3.trans (hb4.mono hbw3.size)
    clear HB3 HO3 hb4 hdata hkind HF hbw3
    have hkind := HO4.out.kind
    go_wp2_with fail
    refine (bs_awake _).mono ?_
    rintro e w7 ⟨rfl, hb7⟩
    have hbw7 := hbw4.trans (hb7.mono hbw4.size)
    go_wp2
    go_ret
    exact ⟨rfl, hbw7⟩
#print axioms encodes_all
end Go.Proofs.Ytmaddfjgiflkbaa
