/- The numbers of the labels of which something holds. -/
import Derived.Test.YtdipoaekdafbeaaTbIn
namespace Go.Proofs.Ytdipoaekdafbeaa
open Go.RowKit Go.Maps Go.ChangeMaps
set_option maxRecDepth 100000
set_option linter.unusedVariables false
open T

set_option maxHeartbeats 8000000 in
theorem whichIn (g m cap : Nat) (ls : Labs) (ao : Option Addr) (w : World) (h : TabR w g ls ao cap m) (hl : ls.length ≤ 1000) (hok : ∀ p ∈ ls, ok p) (lo hi : Int × Nat) (hlo : lo.2 < 2 ^ 240) (hhi : hi.2 < 2 ^ 240) (c1 c2 : Nat) (hc1 : LabAt w c1 lo.1 lo.2) (hc2 : LabAt w c2 hi.1 hi.2) :
    Calls Try.prog 47 #[.pointer (some ⟨g, 0, none⟩), .func (.func 48) #[] #[.pointer (some ⟨c1, 0, none⟩), .pointer (some ⟨c2, 0, none⟩)]] w fun e w' => ∃ ao cp, e = .returned (.slice ao (which (inP lo hi) ls).length cp) ∧ IRow w' ao (which (inP lo hi) ls) ∧ Below w.heap.size w w' := by
  have HT := Lib.hid h
  have Hok := Lib.hid hok
  have k0 := h.c0
  have H1 := Lib.hid hc1
  have H2 := Lib.hid hc2
  clear hc2
  clear h hok hc1
  go_enter Try.func47, Try.ntmps47
  go_wp2_with fail
  refine (Len_any g ls.length cap ao w k0).mono ?_
  rintro e w2 ⟨rfl, hw2⟩
  have hw3 := hw2.symm
  clear hw2
  subst hw3
  clear k0
  go_wp2
  go_loopw [5, 9] (fun s i wr => ∃ (k : Nat) (a : Option Addr) (cp : Nat), k ≤ ls.length ∧ i = .int .i64 k ∧ s = .slice a (intsV (whichTo (inP lo hi) ls k)).length cp ∧ VBuf 3 w.heap.size a cp (intsV (whichTo (inP lo hi) ls k)) wr ∧ Below w.heap.size w wr) (fun _ i _ => ls.length - (intOf i).toNat)
  case atStart => exact ⟨0, none, 0, by omega, rfl, rfl, VBuf.nil _ _ _, Below.refl _ _⟩
  case round =>
    obtain ⟨k, a, cp, hk, rfl, rfl, hbuf, hb⟩ := hrel
    have hbs := hb.size
    have hwl := whichTo_len (inP lo hi) ls k
    have hlen : (intsV (whichTo (inP lo hi) ls k)).length ≤ k := by unfold intsV; rw [List.length_map]; exact hwl
    have HTr := Lib.hid (HT.out.below hb)
    by_cases hlt : k < ls.length
    · obtain ⟨b, off, rfl, hbl, hr⟩ := labs_row HTr.out.row k hlt
      have HRo := Lib.hid (hr k hlt _ (Below.refl _ _))
      have hx : (lab ls k).2 < 2 ^ 240 := (Hok.out _ (lab_mem ls k hlt)).2
      have HC := Lib.hid (holdsIn (lab ls k) wr hx lo hi hlo hhi c1 c2 (H1.out.below hb H1.out.lt) (H2.out.below hb H2.out.lt))
      have Ht : Hid (intsV (whichTo (inP lo hi) ls (k + 1)) = intsV (whichTo (inP lo hi) ls k) ++ (if (inP lo hi) (lab ls k) then [.int .i64 k] else [])) := Lib.hid (by
        rw [whichTo_succ]
        unfold intsV
        rw [List.map_append]
        cases (inP lo hi) (lab ls k) <;> rfl)
      have k0 := HTr.out.c0
      have hk' : (k : Int) < (ls.length : Int) := by omega
      generalize intsV (whichTo (inP lo hi) ls k) = vs at *
      generalize (inP lo hi) (lab ls k) = q at *
      generalize lab ls k = lk at *
      have HBuf := Lib.hid hbuf
      clear hbuf hr hwl
      go_wp2_with (refine load_mid_lab rfl rfl rfl HRo.out ?_)
      refine HC.out.mono ?_
      rintro e w2 ⟨rfl, hb2⟩
      have hbw := hb.trans (hb2.mono hbs)
      have hbuf2 := HBuf.out.carry hb2
      cases q
      · have HB2 := Lib.hid hbuf2
        clear hbuf2 hb2 HBuf HC HRo k0
        go_wp2
        go_roundw
        case rel => exact ⟨k + 1, a, cp, by omega, by go_num, by rw [Ht.out]; simp, by rw [Ht.out]; simpa using HB2.out, hbw⟩
        case measure => simp [intOf]; omega
      · obtain ⟨ao', cap', w3, hrun, hbuf3, hg⟩ := append_one 3 56 _ _ Try.underlying56 Try.info_int rfl (by omega) w.heap.size a cp vs (w2.alloc (.cells #[.int .i64 k] 3)) (hbuf2.alloc _) (.int .i64 k) rfl w2.heap.size (by simp) 56 (by omega) (by simp; exact Nat.le_succ_of_le hbw.size)
        have hb3 : Below w.heap.size w w3 := (hbw.alloc hbw.size _).grown hg (by simp; exact Nat.le_succ_of_le hbw.size) hbuf2.own
        have Hrun := Lib.hid hrun
        have HB3 := Lib.hid hbuf3
        clear hbuf2 hbuf3 hb2 HBuf HC HRo k0 hg hrun hbw
        go_wp2_with (at_builtin; refine listAppend rfl _ _ _ _ rfl _ _ rfl rfl _ _ Hrun.out ?_)
        go_roundw
        case rel => exact ⟨k + 1, ao', cap', by omega, by go_num, by rw [Ht.out]; simp, by rw [Ht.out]; simpa using HB3.out, hb3⟩
        case measure => simp [intOf]; omega
    · obtain rfl : k = ls.length := by omega
      have hl2 : (intsV (whichTo (inP lo hi) ls ls.length)).length = (which (inP lo hi) ls).length := List.length_map _
      have HR := Lib.hid (IRow.of_buf (l := whichTo (inP lo hi) ls ls.length) hbuf)
      have hlt' : ¬ (ls.length : Int) < (ls.length : Int) := by omega
      rw [hl2]
      clear hbuf hl2 hlen hwl
      go_wp2
      go_ret
      exact ⟨a, ⟨cp, rfl⟩, HR.out, hb⟩
set_option maxHeartbeats 4000000 in
theorem whichIn_nil (w : World) (cs : Array Value) :
    Calls Try.prog 47 #[.pointer none, .func (.func 48) #[] cs] w fun e w' => e = .returned (.slice none 0 0) ∧ Below w.heap.size w w' := by
  go_enter Try.func47, Try.ntmps47
  go_wp2_with fail
  refine (Len_nil _).mono ?_
  rintro e w2 ⟨rfl, hw2⟩
  have hw3 := hw2.symm
  clear hw2
  subst hw3
  go_wp2
  refine wp_loop_rounds 1 ?_
  rw [rounds_succ]
  go_wp2
  go_ret
  exact ⟨rfl, Below.refl _ _⟩

set_option maxHeartbeats 8000000 in
theorem whichBel (g m cap : Nat) (ls : Labs) (ao : Option Addr) (w : World) (h : TabR w g ls ao cap m) (hl : ls.length ≤ 1000) (hok : ∀ p ∈ ls, ok p) (t : Int × Nat) (ht : t.2 < 2 ^ 240) (c1 : Nat) (hc1 : LabAt w c1 t.1 t.2) :
    Calls Try.prog 47 #[.pointer (some ⟨g, 0, none⟩), .func (.func 50) #[] #[.pointer (some ⟨c1, 0, none⟩)]] w fun e w' => ∃ ao cp, e = .returned (.slice ao (which (belowP t) ls).length cp) ∧ IRow w' ao (which (belowP t) ls) ∧ Below w.heap.size w w' := by
  have HT := Lib.hid h
  have Hok := Lib.hid hok
  have k0 := h.c0
  have H1 := Lib.hid hc1
  clear h hok hc1
  go_enter Try.func47, Try.ntmps47
  go_wp2_with fail
  refine (Len_any g ls.length cap ao w k0).mono ?_
  rintro e w2 ⟨rfl, hw2⟩
  have hw3 := hw2.symm
  clear hw2
  subst hw3
  clear k0
  go_wp2
  go_loopw [5, 9] (fun s i wr => ∃ (k : Nat) (a : Option Addr) (cp : Nat), k ≤ ls.length ∧ i = .int .i64 k ∧ s = .slice a (intsV (whichTo (belowP t) ls k)).length cp ∧ VBuf 3 w.heap.size a cp (intsV (whichTo (belowP t) ls k)) wr ∧ Below w.heap.size w wr) (fun _ i _ => ls.length - (intOf i).toNat)
  case atStart => exact ⟨0, none, 0, by omega, rfl, rfl, VBuf.nil _ _ _, Below.refl _ _⟩
  case round =>
    obtain ⟨k, a, cp, hk, rfl, rfl, hbuf, hb⟩ := hrel
    have hbs := hb.size
    have hwl := whichTo_len (belowP t) ls k
    have hlen : (intsV (whichTo (belowP t) ls k)).length ≤ k := by unfold intsV; rw [List.length_map]; exact hwl
    have HTr := Lib.hid (HT.out.below hb)
    by_cases hlt : k < ls.length
    · obtain ⟨b, off, rfl, hbl, hr⟩ := labs_row HTr.out.row k hlt
      have HRo := Lib.hid (hr k hlt _ (Below.refl _ _))
      have hx : (lab ls k).2 < 2 ^ 240 := (Hok.out _ (lab_mem ls k hlt)).2
      have HC := Lib.hid (holdsBel (lab ls k) wr hx t ht c1 (H1.out.below hb H1.out.lt))
      have Ht : Hid (intsV (whichTo (belowP t) ls (k + 1)) = intsV (whichTo (belowP t) ls k) ++ (if (belowP t) (lab ls k) then [.int .i64 k] else [])) := Lib.hid (by
        rw [whichTo_succ]
        unfold intsV
        rw [List.map_append]
        cases (belowP t) (lab ls k) <;> rfl)
      have k0 := HTr.out.c0
      have hk' : (k : Int) < (ls.length : Int) := by omega
      generalize intsV (whichTo (belowP t) ls k) = vs at *
      generalize (belowP t) (lab ls k) = q at *
      generalize lab ls k = lk at *
      have HBuf := Lib.hid hbuf
      clear hbuf hr hwl
      go_wp2_with (refine load_mid_lab rfl rfl rfl HRo.out ?_)
      refine HC.out.mono ?_
      rintro e w2 ⟨rfl, hb2⟩
      have hbw := hb.trans (hb2.mono hbs)
      have hbuf2 := HBuf.out.carry hb2
      cases q
      · have HB2 := Lib.hid hbuf2
        clear hbuf2 hb2 HBuf HC HRo k0
        go_wp2
        go_roundw
        case rel => exact ⟨k + 1, a, cp, by omega, by go_num, by rw [Ht.out]; simp, by rw [Ht.out]; simpa using HB2.out, hbw⟩
        case measure => simp [intOf]; omega
      · obtain ⟨ao', cap', w3, hrun, hbuf3, hg⟩ := append_one 3 56 _ _ Try.underlying56 Try.info_int rfl (by omega) w.heap.size a cp vs (w2.alloc (.cells #[.int .i64 k] 3)) (hbuf2.alloc _) (.int .i64 k) rfl w2.heap.size (by simp) 56 (by omega) (by simp; exact Nat.le_succ_of_le hbw.size)
        have hb3 : Below w.heap.size w w3 := (hbw.alloc hbw.size _).grown hg (by simp; exact Nat.le_succ_of_le hbw.size) hbuf2.own
        have Hrun := Lib.hid hrun
        have HB3 := Lib.hid hbuf3
        clear hbuf2 hbuf3 hb2 HBuf HC HRo k0 hg hrun hbw
        go_wp2_with (at_builtin; refine listAppend rfl _ _ _ _ rfl _ _ rfl rfl _ _ Hrun.out ?_)
        go_roundw
        case rel => exact ⟨k + 1, ao', cap', by omega, by go_num, by rw [Ht.out]; simp, by rw [Ht.out]; simpa using HB3.out, hb3⟩
        case measure => simp [intOf]; omega
    · obtain rfl : k = ls.length := by omega
      have hl2 : (intsV (whichTo (belowP t) ls ls.length)).length = (which (belowP t) ls).length := List.length_map _
      have HR := Lib.hid (IRow.of_buf (l := whichTo (belowP t) ls ls.length) hbuf)
      have hlt' : ¬ (ls.length : Int) < (ls.length : Int) := by omega
      rw [hl2]
      clear hbuf hl2 hlen hwl
      go_wp2
      go_ret
      exact ⟨a, ⟨cp, rfl⟩, HR.out, hb⟩
set_option maxHeartbeats 4000000 in
theorem whichBel_nil (w : World) (cs : Array Value) :
    Calls Try.prog 47 #[.pointer none, .func (.func 50) #[] cs] w fun e w' => e = .returned (.slice none 0 0) ∧ Below w.heap.size w w' := by
  go_enter Try.func47, Try.ntmps47
  go_wp2_with fail
  refine (Len_nil _).mono ?_
  rintro e w2 ⟨rfl, hw2⟩
  have hw3 := hw2.symm
  clear hw2
  subst hw3
  go_wp2
  refine wp_loop_rounds 1 ?_
  rw [rounds_succ]
  go_wp2
  go_ret
  exact ⟨rfl, Below.refl _ _⟩
#print axioms whichIn
#print axioms whichBel
end Go.Proofs.Ytdipoaekdafbeaa
