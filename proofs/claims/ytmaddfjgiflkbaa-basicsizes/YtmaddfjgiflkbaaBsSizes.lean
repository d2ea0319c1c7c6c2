/- The walk of BasicSizes. -/
import Derived.Test.YtmaddfjgiflkbaaBsDec
namespace Go.Proofs.Ytmaddfjgiflkbaa
open Go.RowKit
set_option maxRecDepth 100000
set_option linter.unusedVariables false

namespace B
open C
theorem most_28 (n : Nat) (h : mostTo n 240 ≤ 27) : mostTo n 28 = mostTo n 240 := by
  have key : ∀ d, d ≤ 212 → mostTo n (28 + d) = mostTo n 28 := by
    intro d
    induction d with
    | zero => intro _; rfl
    | succ d ih =>
      intro hd
      rw [show mostTo n (28 + (d + 1)) = if hasN n (28 + d) then ((28 + d : Nat) : Int) else mostTo n (28 + d) from rfl]
      have : hasN n (28 + d) ≠ true := fun hh => by
        have := most_has n 240 (28 + d) (by omega) hh
        omega
      rw [if_neg this, ih (by omega)]
  exact (key 212 (by omega)).symm
theorem err_cases (z : Int) (n : Nat) : (errN z n = 0 ∧ 0 ≤ z ∧ z < 4 ∧ mostTo n 240 ≤ 27 ∧ fits z n = true) ∨ (errN z n ≠ 0 ∧ errN z n ≤ 5 ∧ fits z n = false) := by
  unfold errN
  by_cases hr : 0 ≤ z ∧ z ≤ 255
  · rw [if_pos hr]
    cases hf : fits z n
    · right; simp
    · left
      have : 0 ≤ z ∧ z < 4 ∧ mostTo n 240 ≤ 27 := by
        unfold fits at hf
        simpa [Bool.and_eq_true, decide_eq_true_eq] using hf
      exact ⟨rfl, this.1, this.2.1, this.2.2, rfl⟩
  · rw [if_neg hr]
    right
    refine ⟨by decide, by decide, ?_⟩
    unfold fits
    by_cases h0 : 0 ≤ z
    · rw [decide_eq_false (show ¬ z < 4 by omega)]; simp
    · rw [decide_eq_false h0]; rfl
theorem dat_size (z : Int) (n : Nat) : (dat z n).size = 1 + len n := by
  unfold dat
  rw [BsEnc.nb_size, List.length_cons]
  unfold au
  rw [List.length_map, List.length_range]
  omega
theorem head_is (z : Int) (n : Nat) : head (dat z n) = lb z := by
  unfold head dat nb
  simp
  have := lb_lt z
  omega
theorem lev_is (z : Int) (h0 : 0 ≤ z) (h4 : z < 4) : lev (lb z) = (z.toNat, true) := by
  have : z = 0 ∨ z = 1 ∨ z = 2 ∨ z = 3 := by omega
  rcases this with rfl | rfl | rfl | rfl <;> rfl
end B

theorem index_head (s : ByteArray) (h : 0 < s.size) (w : World) : (Instr.index 9 (.string s) (.int .i64 0)).run Try.prog w = .ok (.int .u8 (B.head s : Nat)) w := by
  rw [run_index_string w _ _ _ _ Try.underlying9, dif_pos ⟨by omega, by omega⟩]
  have : (s[(0 : Int).toNat]'(by simpa using h)).toNat = B.head s := by
    unfold B.head
    rw [List.getD_eq_getElem?_getD, List.getElem?_eq_getElem (by rw [Array.length_toList]; exact h)]
    rfl
  rw [this]

set_option maxHeartbeats 8000000 in
theorem sizes_all (z : Int) (n : Nat) (w : World) (hn : n < 2 ^ 240) :
    Calls Try.prog 5 #[.agg (L.lv z n)] w fun e w' => e = .returned (.bool true) ∧ Below w.heap.size w w' := by
  have HB := Lib.hid (LabAt.new w z n)
  have hb0 : Below w.heap.size w (w.alloc (.cells (L.lv z n) 25)) := (Below.refl _ w).alloc (Nat.le_refl _) _
  have HE := Lib.hid (fun w => BsEnc.enc_any z n w hn)
  go_enter Try.func5, Try.ntmps5
  go_wp2_with (refine load_lab rfl rfl rfl HB.out ?_)
  refine (HE.out _).mono ?_
  rintro e w1 ⟨rfl, hb1⟩
  have HB1 := Lib.hid (HB.out.below hb1 HB.out.lt)
  have hbw1 := hb0.trans (hb1.mono hb0.size)
  have hz1 := hbw1.size
  have HN := Lib.hid (OptAt.new w1 0 ⟨#[]⟩)
  have zB := HB1.out.lt
  clear hb0 hb1 HB HE
  unfold opv
  rcases B.err_cases z n with ⟨h0, hz0, hz4, h27, hf⟩ | ⟨h0, h5, hf⟩
  · have hkd : BsEnc.kd z n = 130 := by unfold BsEnc.kd; rw [if_pos h0]
    have hst : B.str z n = B.dat z n := by unfold B.str; rw [if_pos h0]
    have hds := B.dat_size z n
    have hhd := B.head_is z n
    have hlv := B.lev_is z hz0 hz4
    have h28 := Lib.hid (B.most_28 n h27)
    have hlen : Hid (B.len n = ((C.mostTo n 240 + 7) / 7).toNat) := Lib.hid rfl
    have hge := (C.mostTo_ge n 240).1
    have hix := fun w => index_head (B.dat z n) (by omega) w
    have Hlv := Lib.hid (fun w => level_any (B.lb z) w (B.lb_lt z))
    rw [hlv] at Hlv
    rw [hhd] at hix
    rw [h0, hkd, hst]
    clear h0 hkd hst hhd hlv hf
    have hdl : ¬ ((B.dat z n).size : Int) = 0 := by omega
    have hdb : (((B.dat z n).size : Int) == 0) = false := by rw [beq_eq_false_iff_ne]; omega
    have hsz : Hid (((B.dat z n).size : Int) = 1 + (C.mostTo n 240 + 7) / 7) := Lib.hid (by rw [hds, hlen.out]; omega)
    have hzn : ((z.toNat : Nat) : Int) = z := by omega
    have hdsz : (B.dat z n).size ≤ 5 := by rw [hds, hlen.out]; omega
    clear hds hlen
    generalize B.dat z n = d at *
    generalize B.lb z = bz at *
    go_wp2_with (refine store_opt rfl rfl rfl rfl HN.out ?_; intro w2 hs ho; have HO2 := Lib.hid hs; have hdata := hs.data; have ho2 := Lib.hid ho; clear hs ho)
    have HB2 := Lib.hid ((HB1.out.alloc (.cells #[.int .i64 0, .string ⟨#[]⟩] 27)).only ho2.out (by omega))
    have hbw2 := (hbw1.alloc hz1 (.cells #[.int .i64 0, .string ⟨#[]⟩] 27)).trans (ho2.out.below (by omega))
    clear HN HB1 ho2
    go_loopw [5, 6] (fun c i wr => ∃ k : Nat, k ≤ 28 ∧ i = .int .i64 k ∧ c = .int .i64 (C.mostTo n k) ∧ LabAt wr w.heap.size z n ∧ OptAt wr w1.heap.size 130 d ∧ Below w.heap.size w wr) (fun _ i _ => 28 - (intOf i).toNat)
    case atStart => exact ⟨0, by omega, rfl, rfl, HB2.out, HO2.out, hbw2⟩
    case round =>
      obtain ⟨k, hk, rfl, rfl, hB, hO, hb⟩ := hrel
      clear HB2 HO2 hbw2 hdata hbw1
      have hbs := hb.size
      have HB := Lib.hid hB
      have HO := Lib.hid hO
      have zB' := hB.lt
      have zO' := hO.lt
      by_cases hlt : k < 28
      · have hk' : (k : Int) < 28 := by omega
        have Hm := Lib.hid (show C.mostTo n (k + 1) = if C.hasN n k then (k : Int) else C.mostTo n k from rfl)
        clear hB hO
        generalize C.mostTo n k = c at *
        cases hq : C.hasN n k
        all_goals
          have Hq := Lib.hid hq
          go_wp2_with (refine load_labcats rfl rfl rfl HB.out ?_)
          refine (RHas_in n k _ (by omega) _ hq).mono ?_
          rintro e w4 ⟨rfl, hb4⟩
          have hbw := hb.trans (hb4.mono hbs)
          have HB4 := Lib.hid (HB.out.below hb4 zB')
          have HO4 := Lib.hid (HO.out.below hb4 zO')
          clear hb4 hq hb
          go_wp2
          go_roundw
          case rel => exact ⟨k + 1, by omega, by go_num, by rw [Hm.out, Hq.out]; rfl, HB4.out, HO4.out, hbw⟩
          case measure => simp [intOf]; omega
      · obtain rfl : k = 28 := by omega
        have hlv := hB.level
        have hdata := hO.data
        have hmm := h28.out
        rw [hmm]
        clear hB hO hmm
        have hszz := hsz.out
        generalize C.mostTo n 240 = ms at *
        go_wp2_with fail
        refine (Hlv.out _).mono ?_
        rintro e w4 ⟨rfl, hb4⟩
        have hbw := hb.trans (hb4.mono hbs)
        have hlv4 := (HB.out.below hb4 zB').level
        have hdata4 := (HO.out.below hb4 zO').data
        clear hb4 hlv hdata HB HO hb
        have heq : (((d.size : Nat) : Int) == 1 + (ms + 7) / 7) = true := by rw [beq_iff_eq]; exact hszz
        have hzz : ((((z.toNat : Nat) : Int)) == z) = true := by rw [beq_iff_eq]; exact hzn
        have hm0 : -1 ≤ ms := hge
        go_wp2_with fail
        refine (bs_awake _).mono ?_
        rintro e w5 ⟨rfl, hb5⟩
        have hbw5 := hbw.trans (hb5.mono hbw.size)
        go_wp2
        go_ret
        exact ⟨rfl, hbw5⟩
  · have hkd : BsEnc.kd z n = 0 := by unfold BsEnc.kd; rw [if_neg h0]
    have hst : B.str z n = ⟨#[]⟩ := by unfold B.str; rw [if_neg h0]
    rw [hkd, hst]
    have hne : ((B.errN z n : Nat) : Int) ≠ 0 := by omega
    have hneb : (((B.errN z n : Nat) : Int) == 0) = false := by rw [beq_eq_false_iff_ne]; exact hne
    have HF := Lib.hid (fun w => BsFits.fits_any z n w)
    rw [hf] at HF
    clear h0 h5 hf hkd hst
    generalize B.errN z n = E at *
    go_wp2_with (first | (refine store_opt rfl rfl rfl rfl HN.out ?_; intro w2 hs ho; have HO2 := Lib.hid hs; have ho2 := Lib.hid ho; have HB2 := Lib.hid ((HB1.out.alloc (.cells #[.int .i64 0, .string ⟨#[]⟩] 27)).only ho (by omega)); clear hs ho) | (refine load_opt rfl rfl rfl HO2.out ?_) | (refine step_opw rfl (run_op_eql_opt (k := 0) (l := 0) (s := ⟨#[]⟩) (u := ⟨#[]⟩) rfl (by simp [Act.eval, Act.put, opv]) (by simp [Act.eval, Act.put, opv])) ?_) | (refine load_lab rfl rfl rfl HB2.out ?_))
    refine (HF.out _).mono ?_
    rintro e w3 ⟨rfl, hb3⟩
    have hbw2 := (hbw1.alloc hz1 (.cells #[.int .i64 0, .string ⟨#[]⟩] 27)).trans (ho2.out.below (by omega))
    have hbw3 := hbw2.trans (hb3.mono hbw2.size)
    go_wp2_with fail
    refine (bs_awake _).mono ?_
    rintro e w5 ⟨rfl, hb5⟩
    have hbw5 := hbw3.trans (hb5.mono hbw3.size)
    go_wp2
    go_ret
    exact ⟨rfl, hbw5⟩
#print axioms sizes_all
end Go.Proofs.Ytmaddfjgiflkbaa
