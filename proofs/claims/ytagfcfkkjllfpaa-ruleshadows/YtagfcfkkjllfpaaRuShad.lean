/- Which rules are covered by one ahead of them. -/
import Derived.Test.YtagfcfkkjllfpaaRuMore
import Derived.Test.YtagfcfkkjllfpaaRuCov
namespace Go.Proofs.Ytagfcfkkjllfpaa
open Go.RowKit
set_option maxRecDepth 100000
set_option linter.unusedVariables false
open U

namespace U
/-- Is the rule at a place covered by one ahead of it? -/
def covd (l : List Ru) (k : Nat) : Bool := (List.range k).any fun j => cov (ru l j) (ru l k)
def shadTo (l : List Ru) (k : Nat) : List Nat := (List.range k).filter (covd l)
theorem shadTo_succ (l : List Ru) (k : Nat) : shadTo l (k + 1) = shadTo l k ++ (if covd l k then [k] else []) := by
  unfold shadTo
  rw [List.range_succ, List.filter_append]
  congr 1
  simp [List.filter_cons]
theorem shadTo_le (l : List Ru) (k : Nat) : (shadTo l k).length ≤ k := Nat.le_trans (List.length_filter_le _ _) (by simp)
theorem covd_yes {l : List Ru} {j k : Nat} (hj : j < k) (h : cov (ru l j) (ru l k) = true) : covd l k = true := List.any_eq_true.2 ⟨j, List.mem_range.2 hj, h⟩
theorem covd_no {l : List Ru} {k : Nat} (h : ∀ j, j < k → cov (ru l j) (ru l k) = false) : covd l k = false := by
  unfold covd
  rw [List.any_eq_false]
  intro j hj
  rw [h j (List.mem_range.1 hj)]
  decide
end U
theorem Try.infoInt : (Try.prog.info? 3).map (fun i => (i.zero, i.size, i.bytes)) = some (some (.int .i64 0), 1, 8) := by kernel_rfl

set_option maxHeartbeats 16000000 in
theorem Shad_any (a0 : Option Addr) (cap : Nat) (l : List Ru) (w : World) (h : RRow w a0 l) (hf : Fine l) (hl : l.length ≤ 1000000) (hcap : l.length ≤ cap) :
    Calls Try.prog 20 #[.slice a0 l.length cap] w fun e w' => ∃ ao cp, e = .returned (.slice ao (shadTo l l.length).length cp) ∧ Own w.heap.size 3 1 ao cp (shadTo l l.length).length (natsX (shadTo l l.length)) w' ∧ Below w.heap.size w w' := by
  have HR := Lib.hid h
  have HF := Lib.hid hf
  have HCov := Lib.hid (fun j k (hj : j < l.length) (hk : k < l.length) w' => covers_any (ru l j) (ru l k) w' (hf _ (ru_mem l j hj)) (hf _ (ru_mem l k hk)))
  have HYes := Lib.hid (fun j k (hj : j < k) => covd_yes (l := l) hj)
  have HNo := Lib.hid (fun k => covd_no (l := l) (k := k))
  have HSt := Lib.hid (shadTo_succ l)
  have HLe := Lib.hid (shadTo_le l)
  have H0 := Lib.hid (show shadTo l 0 = [] from rfl)
  clear h hf
  generalize hsh : shadTo l = sh at *
  clear hsh
  go_enter Try.func20, Try.ntmps20
  go_wp2
  go_step3
  go_wp2
  go_step3
  go_wp2
  go_loopw [3, 10] (fun s i wr => ∃ (k : Nat) (ao : Option Addr) (cp m : Nat), k ≤ l.length ∧ i = .int .i64 k ∧ s = .slice ao m cp ∧ Hid (m = (sh k).length) ∧ Own w.heap.size 3 1 ao cp m (natsX (sh k)) wr ∧ Below w.heap.size w wr) (fun _ i _ => l.length - (intOf i).toNat)
  case atStart => exact ⟨0, none, 0, 0, Nat.zero_le _, rfl, rfl, Lib.hid (by rw [H0.out]; rfl), by rw [H0.out]; exact World.ownsRow_nil _ _ _ _, Below.refl _ _⟩
  case round =>
    obtain ⟨k, ao, cp, m, hk, rfl, rfl, HM, hown, hb⟩ := hrel
    by_cases hkl : k < l.length
    · have hkl2 : (k : Int) < (l.length : Int) := by omega
      have hkc : k ≤ cap := by omega
      have hkc2 : (k : Int) ≤ (cap : Int) := by omega
      obtain ⟨b, off, rfl, hbl, hL⟩ := (HR.out.below hb).at k _ (ru_get l k hkl)
      have HCk := Lib.hid (fun j (hj : j < l.length) => HCov.out j k hj hkl)
      have HYk := Lib.hid (fun j => HYes.out j k)
      have HNk := Lib.hid (HNo.out k)
      have HStk := Lib.hid (HSt.out k)
      have HRb := Lib.hid (HR.out.below hb)
      have hml := Lib.hid (show m ≤ 1000000 by rw [HM.out]; exact Nat.le_trans (HLe.out k) (by omega))
      generalize hck : (fun j => cov (ru l j) (ru l k)) = ck at *
      have hck' : ∀ j, cov (ru l j) (ru l k) = ck j := fun j => congrFun hck j
      simp only [hck'] at HCk HYk HNk
      clear hck hck'
      generalize covd l k = cv at *
      generalize ru l k = s at *
      have hbs := hb.size
      have HS := Lib.hid (Lies.new wr s.v 34)
      have HO1 := Lib.hid (World.ownsRow.alloc hown (.cells s.v.toArray 34))
      have hb1 := hb.alloc hbs (.cells s.v.toArray 34)
      have c0 := hL.at0 0 _ _ rfl rfl
      have c1 := hL.at0 1 _ _ rfl rfl
      have c2 := hL.at0 2 _ _ rfl rfl
      have c3 := hL.at0 3 _ _ rfl rfl
      have c4 := hL.at0 4 _ _ rfl rfl
      have c5 := hL.at0 5 _ _ rfl rfl
      have c6 := hL.at0 6 _ _ rfl rfl
      have c7 := hL.at0 7 _ _ rfl rfl
      have c8 := hL.at0 8 _ _ rfl rfl
      have c9 := hL.at0 9 _ _ rfl rfl
      have c10 := hL.at0 10 _ _ rfl rfl
      have c11 := hL.at0 11 _ _ rfl rfl
      simp only [Nat.add_zero] at c0
      clear hL hown
      obtain ⟨i2, o2, sa2, sb2, da2, db2, p2, slo2, shi2, dlo2, dhi2, al2⟩ := s
      simp only [Ru.v] at HS HO1 hb1 HCk
      go_wp2
      clear c0 c1 c2 c3 c4 c5 c6 c7 c8 c9 c10 c11
      generalize hW1 : (wr.alloc (.cells #[.int .i64 i2, .int .i64 o2, .int .u32 sa2, .int .i64 sb2, .int .u32 da2, .int .i64 db2, .int .i64 p2, .int .i64 slo2, .int .i64 shi2, .int .i64 dlo2, .int .i64 dhi2, .bool al2] 34)) = W1 at *
      clear hW1
      generalize wr = wo at *
      go_loopw [3, 19] (fun s i wr => ∃ j : Nat, j ≤ k ∧ i = .int .i64 j ∧ s = .slice ao m cp ∧ Hid (∀ q, q < j → ck q = false) ∧ Below W1.heap.size W1 wr ∧ Below w.heap.size w wr) (fun _ i _ => k - (intOf i).toNat)
      case atStart => exact ⟨0, Nat.zero_le _, rfl, rfl, Lib.hid fun q hq => by omega, Below.refl _ _, hb1⟩
      case round =>
        clear hb1
        obtain ⟨j, hj, rfl, rfl, HJ, hbW, hbw⟩ := hrel
        by_cases hjk : j < k
        · have hjk2 : (j : Int) < (k : Int) := by omega
          have hjl : j < l.length := by omega
          obtain ⟨b', off', hbo, _, hL⟩ := (HR.out.below hbw).at j _ (ru_get l j hjl)
          obtain ⟨rfl, rfl⟩ : b' = b ∧ off' = off := by simpa [eq_comm] using hbo
          have HCj := Lib.hid (HCk.out j hjl)
          have HYj := Lib.hid (HYk.out j hjk)
          have HJ2 := Lib.hid (fun h : ck j = false => (show ∀ q, q < j + 1 → ck q = false from fun q hq => by
            rcases Nat.lt_or_ge q j with h1 | h1
            · exact HJ.out q h1
            · obtain rfl : q = j := by omega
              exact h))
          generalize ck j = x at *
          generalize ru l j = r at *
          have c0 := hL.at0 0 _ _ rfl rfl
          have c1 := hL.at0 1 _ _ rfl rfl
          have c2 := hL.at0 2 _ _ rfl rfl
          have c3 := hL.at0 3 _ _ rfl rfl
          have c4 := hL.at0 4 _ _ rfl rfl
          have c5 := hL.at0 5 _ _ rfl rfl
          have c6 := hL.at0 6 _ _ rfl rfl
          have c7 := hL.at0 7 _ _ rfl rfl
          have c8 := hL.at0 8 _ _ rfl rfl
          have c9 := hL.at0 9 _ _ rfl rfl
          have c10 := hL.at0 10 _ _ rfl rfl
          have c11 := hL.at0 11 _ _ rfl rfl
          simp only [Nat.add_zero] at c0
          have HS2 := HS.out.below hbW
          have d0 := HS2.at0 0 0 _ rfl (Nat.zero_add _)
          have d1 := HS2.at0 1 1 _ rfl (Nat.zero_add _)
          have d2 := HS2.at0 2 2 _ rfl (Nat.zero_add _)
          have d3 := HS2.at0 3 3 _ rfl (Nat.zero_add _)
          have d4 := HS2.at0 4 4 _ rfl (Nat.zero_add _)
          have d5 := HS2.at0 5 5 _ rfl (Nat.zero_add _)
          have d6 := HS2.at0 6 6 _ rfl (Nat.zero_add _)
          have d7 := HS2.at0 7 7 _ rfl (Nat.zero_add _)
          have d8 := HS2.at0 8 8 _ rfl (Nat.zero_add _)
          have d9 := HS2.at0 9 9 _ rfl (Nat.zero_add _)
          have d10 := HS2.at0 10 10 _ rfl (Nat.zero_add _)
          have d11 := HS2.at0 11 11 _ rfl (Nat.zero_add _)
          have hsl := HS2.lt
          clear hL hbo HS2
          obtain ⟨i, o, sa, sb, da, db, p, slo, shi, dlo, dhi, al⟩ := r
          go_wp2_with fail
          refine (HCj.out _).mono ?_
          rintro e w2 ⟨rfl, hb2⟩
          have hbW2 := (hbW.alloc hbW.size _).trans (hb2.mono (by have := hbW.size; simp; omega))
          have hbw2 := (hbw.alloc hbw.size _).trans (hb2.mono (by have := hbw.size; simp; omega))
          clear c0 c1 c2 c3 c4 c5 c6 c7 c8 c9 c10 c11 d0 d1 d2 d3 d4 d5 d6 d7 d8 d9 d10 d11 hb2 hbW hbw HCj
          cases x
          · have G := Lib.hid (HJ2.out rfl)
            go_wp2
            go_roundw
            case rel => exact ⟨j + 1, by omega, by go_num, by trivial, G, hbW2, hbw2⟩
            case measure => simp [intOf]; omega
          · have hcv := HYj.out rfl
            subst hcv
            have hown2 := Own.carry HO1.out hbW2
            obtain ⟨ao', cp', w3, hrun, hown3, hg3, _⟩ := Own.app1 3 42 _ 1 8 Try.underlying42 Try.infoInt rfl (by omega) w.heap.size ao cp m (natsX (sh k)) (w2.alloc (.cells #[.int .i64 k] 3)) (World.ownsRow.alloc hown2 _) [.int .i64 k] rfl (by intro u hu; obtain rfl := List.mem_singleton.1 hu; rfl) w2.heap.size (cells_new w2 [.int .i64 k] 3) 42 (by have := hml.out; omega) (by have := hbw2.size; simp; omega)
            have hb3 : Below w.heap.size w w3 := (hbw2.alloc hbw2.size _).grown hg3 (by have := hbw2.size; simp; omega) hown2.low
            have HM2 : Hid (m + 1 = (sh (k + 1)).length) := Lib.hid (by rw [HStk.out, HM.out]; simp)
            have HO3 : Hid (Own w.heap.size 3 1 ao' cp' (m + 1) (natsX (sh (k + 1))) w3) := Lib.hid (by rw [HStk.out]; simp only [if_pos]; rw [natsX_app]; exact hown3)
            have Hrun := Lib.hid hrun
            clear hown2 hown3 hg3 hrun
            go_wp2_with (at_builtin; refine listAppend rfl _ _ _ _ rfl _ _ rfl rfl _ _ Hrun.out ?_)
            go_roundw
            case rel => exact ⟨k + 1, ao', cp', m + 1, by omega, by go_num, rfl, HM2, HO3.out, hb3⟩
            case measure => simp [intOf]; omega
        · obtain rfl : j = k := by omega
          have hge : ¬ (j : Int) < (j : Int) := by omega
          have hcv := HNk.out HJ.out
          subst hcv
          have hst := HStk.out
          have HO2 := Lib.hid (Own.carry HO1.out hbW)
          have HM2 : Hid (m = (sh (j + 1)).length) := Lib.hid (by rw [hst, HM.out]; simp)
          have HO3 : Hid (Own w.heap.size 3 1 ao cp m (natsX (sh (j + 1))) wr) := Lib.hid (by rw [hst]; simpa using HO2.out)
          clear hst
          go_wp2
          go_roundw
          case rel => exact ⟨j + 1, ao, cp, m, by omega, by go_num, rfl, HM2, HO3.out, hbw⟩
          case measure => simp [intOf]; omega
    · obtain rfl : k = l.length := by omega
      have hge : ¬ (l.length : Int) < (l.length : Int) := by omega
      have hm := HM.out
      subst hm
      have HO := Lib.hid hown
      clear hown
      go_wp2
      go_ret
      exact ⟨_, _, rfl, HO.out, hb⟩
end Go.Proofs.Ytagfcfkkjllfpaa
