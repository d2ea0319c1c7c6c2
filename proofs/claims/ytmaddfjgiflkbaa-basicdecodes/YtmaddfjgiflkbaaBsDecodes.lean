/- The walk of BasicDecodes. -/
import Derived.Test.YtmaddfjgiflkbaaBsRef
namespace Go.Proofs.Ytmaddfjgiflkbaa
open Go.RowKit
set_option maxRecDepth 100000
set_option linter.unusedVariables false

namespace B
/-- The last level below k whose byte it is. -/
def want (b : Nat) : Nat → Nat
  | 0 => 0
  | k + 1 => if lb k = b then k else want b k
theorem want_le (b : Nat) : ∀ k, want b k ≤ k
  | 0 => Nat.le_refl _
  | k + 1 => by
    have := want_le b k
    unfold want
    split <;> omega
theorem want_is (b : Nat) (h : b < 256) : (lev b).1 = want b 4 ∧ (lev b).2 = decide (lb (want b 4 : Nat) = b) := by
  have : (List.range 256).all (fun b => (lev b).1 == want b 4 && (lev b).2 == decide (lb (want b 4 : Nat) = b)) = true := by kernel_rfl
  have h1 := List.all_eq_true.1 this b (List.mem_range.2 h)
  simp only [Bool.and_eq_true, beq_iff_eq] at h1
  exact h1
end B

theorem B.decN_lt (k : Int) (s : ByteArray) : B.decN k s < 2 ^ 240 := by
  unfold B.decN
  split
  · split
    · exact Nat.pow_pos (by decide)
    · split
      · exact B.toldTo_lt _ 28
      · exact Nat.pow_pos (by decide)
  · exact Nat.pow_pos (by decide)
set_option maxHeartbeats 8000000 in
theorem decodes_all (k : Int) (s : ByteArray) (bi : Int) (w : World) (hs : s.size ≤ maxLen) (hb : 0 ≤ bi ∧ bi < 256) (hd : ∀ n, B.decN k s = n → n < 2 ^ 240) :
    Calls Try.prog 4 #[.agg (opv k s), .int .u8 bi] w fun e w' => e = .returned (.bool true) ∧ Below w.heap.size w w' := by
  obtain ⟨b, rfl⟩ : ∃ b : Nat, bi = b := ⟨bi.toNat, by omega⟩
  have hb256 : b < 256 := by omega
  have HO := Lib.hid (OptAt.new w k s)
  have hb0 : Below w.heap.size w (w.alloc (.cells (opv k s) 27)) := (Below.refl _ w).alloc (Nat.le_refl _) _
  have hdata : (w.alloc (.cells (opv k s) 27)).cell? ⟨w.heap.size, 1, none⟩ = some (.string s) := HO.out.data
  unfold maxLen at hs
  by_cases hlen : 200 < s.size
  · have hlen' : (200 : Int) < (s.size : Int) := by omega
    unfold opv at *
    clear HO
    go_enter Try.func4, Try.ntmps4
    go_wp2_with fail
    refine (bs_awake _).mono ?_
    rintro e w1 ⟨rfl, hb1⟩
    have hbw := hb0.trans (hb1.mono hb0.size)
    go_wp2
    go_ret
    exact ⟨rfl, hbw⟩
  have hlen' : ¬ (200 : Int) < (s.size : Int) := by omega
  have HD := Lib.hid (fun w => BsDec.dec_any k s w (by omega))
  have HR := Lib.hid (fun w => refDec_any k s w (by omega))
  have HLev := Lib.hid (fun w => level_any b w hb256)
  have hw := B.want_is b hb256
  rw [hw.1, hw.2] at HLev
  clear hw
  have hn := hd _ rfl
  generalize B.decN k s = n at *
  generalize B.decZ k s = z at *
  generalize B.decE k s = E at *
  clear hd
  unfold opv at *
  go_enter Try.func4, Try.ntmps4
  go_wp2_with (refine load_opt rfl rfl rfl HO.out ?_)
  refine (HD.out _).mono ?_
  rintro e w1 ⟨rfl, hb1⟩
  have HO1 := Lib.hid (HO.out.below hb1 HO.out.lt)
  have hbw1 := hb0.trans (hb1.mono hb0.size)
  have HN := Lib.hid (LabAt.new w1 0 0)
  have zO := HO1.out.lt
  have hz1 := hbw1.size
  clear hb0 hb1 HO HD hdata
  go_wp2_with (first | (rw [L.zero31]; refine store_lab rfl rfl rfl rfl HN.out ?_; intro w2 hs ho; have HA := Lib.hid hs; have HO2 := Lib.hid ((HO1.out.alloc (.cells (L.lv 0 0) 25)).only ho (by omega)); have ho2 := Lib.hid ho; clear hs ho) | (refine load_opt rfl rfl rfl HO2.out ?_))
  have hbw2 := (hbw1.alloc hz1 (.cells (L.lv 0 0) 25)).trans (ho2.out.below (by omega))
  clear HN HO1 ho2 hbw1
  refine (HR.out _).mono ?_
  rintro e w3 ⟨rfl, hb3⟩
  have HA3 := Lib.hid (HA.out.below hb3 HA.out.lt)
  have hbw3 := hbw2.trans (hb3.mono hbw2.size)
  have HN3 := Lib.hid (LabAt.new w3 0 0)
  have zA := HA3.out.lt
  have hz3 := hbw3.size
  clear HA HO2 hb3 HR hbw2
  go_wp2_with (rw [L.zero31]; refine store_lab rfl rfl rfl rfl HN3.out ?_; intro w4 hs ho; have HR4 := Lib.hid hs; have HA4 := Lib.hid ((HA3.out.alloc (.cells (L.lv 0 0) 25)).only ho (by omega)); have ho4 := Lib.hid ho; clear hs ho)
  have hbw4 := (hbw3.alloc hz3 (.cells (L.lv 0 0) 25)).trans (ho4.out.below (by omega))
  clear HN3 HA3 ho4 hbw3
  refine (HLev.out _).mono ?_
  rintro e w5 ⟨rfl, hb5⟩
  have HA5 := Lib.hid (HA4.out.below hb5 HA4.out.lt)
  have HR5 := Lib.hid (HR4.out.below hb5 HR4.out.lt)
  have hbw5 := hbw4.trans (hb5.mono hbw4.size)
  clear HA4 HR4 hb5 HLev hbw4
  go_wp2
  go_loopw [11, 12] (fun v i wr => ∃ j : Nat, j ≤ 4 ∧ i = .int .i64 j ∧ v = .int .i64 (B.want b j : Nat) ∧ wr = w5) (fun _ i _ => 4 - (intOf i).toNat)
  case atStart => exact ⟨0, by omega, rfl, rfl, rfl⟩
  case round =>
    obtain ⟨j, hj, rfl, rfl, rfl⟩ := hrel
    by_cases hlt : j < 4
    · have hj' : (j : Int) < 4 := by omega
      have Hs := Lib.hid (show B.want b (j + 1) = if B.lb j = b then j else B.want b j from rfl)
      have HBy := Lib.hid (fun w => refByte_any j w)
      have hwl := B.want_le b j
      generalize B.want b j = v at *
      by_cases hq : B.lb j = b
      · have Hq := Lib.hid hq
        rw [hq] at HBy
        clear hq
        go_wp2_with fail
        refine (HBy.out _).mono ?_
        rintro e w6 ⟨rfl, rfl⟩
        go_wp2
        go_roundw
        case rel => exact ⟨j + 1, by omega, by go_num, by rw [Hs.out, if_pos Hq.out], by first | rfl | trivial⟩
        case measure => simp [intOf]; omega
      · have Hq := Lib.hid hq
        have hqb : (((B.lb j : Nat) : Int) == ((b : Nat) : Int)) = false := by rw [beq_eq_false_iff_ne]; omega
        clear hq
        generalize B.lb j = q at *
        go_wp2_with fail
        refine (HBy.out _).mono ?_
        rintro e w6 ⟨rfl, rfl⟩
        go_wp2
        go_roundw
        case rel => exact ⟨j + 1, by omega, by go_num, by rw [Hs.out, if_neg Hq.out], by first | rfl | trivial⟩
        case measure => simp [intOf]; omega
    · obtain rfl : j = 4 := by omega
      have HBy := Lib.hid (fun w => refByte_any (B.want b 4 : Nat) w)
      generalize B.want b 4 = v at *
      have hdb : Hid (decide (B.lb (v : Nat) = b) = (((B.lb (v : Nat) : Nat) : Int) == ((b : Nat) : Int))) := Lib.hid (by
        by_cases e : B.lb (v : Nat) = b
        · rw [decide_eq_true e, e]; simp
        · rw [decide_eq_false e]; symm; rw [beq_eq_false_iff_ne]; omega)
      rw [hdb.out]
      clear hdb
      generalize B.lb (v : Nat) = q at *
      go_wp2_with (first | (refine load_lab rfl rfl rfl HA5.out ?_) | (refine load_lab rfl rfl rfl HR5.out ?_) | (refine step_opw rfl (run_op_eql_lab (z := z) (z' := z) (n := n) (m := n) rfl (by simp [Act.eval, Act.put]) (by simp [Act.eval, Act.put]) hn hn) ?_))
      refine (HBy.out _).mono ?_
      rintro e w6 ⟨rfl, rfl⟩
      go_wp2_with fail
      refine (bs_awake _).mono ?_
      rintro e w7 ⟨rfl, hb7⟩
      have hbw7 := hbw5.trans (hb7.mono hbw5.size)
      go_wp2
      go_ret
      exact ⟨rfl, hbw7⟩
#print axioms decodes_all
end Go.Proofs.Ytmaddfjgiflkbaa
