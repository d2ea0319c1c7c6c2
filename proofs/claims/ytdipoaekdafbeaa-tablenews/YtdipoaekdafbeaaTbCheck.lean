/- The document's answer for a table: how many labels can be there; a label's number. -/
import Derived.Test.YtdipoaekdafbeaaTbAwake
namespace Go.Proofs.Ytdipoaekdafbeaa
open Go.RowKit Go.Maps Go.ChangeMaps
set_option maxRecDepth 100000
set_option linter.unusedVariables false
open T

theorem vs9 (vs : List Value) (h : vs.length = 9) : ∃ v0 v1 v2 v3 v4 v5 v6 v7 v8, vs = [v0, v1, v2, v3, v4, v5, v6, v7, v8] := by
  obtain ⟨v0, r0, rfl, h0⟩ := LbLow.vs_cons vs h
  obtain ⟨v1, r1, rfl, h1⟩ := LbLow.vs_cons r0 h0
  obtain ⟨v2, r2, rfl, h2⟩ := LbLow.vs_cons r1 h1
  obtain ⟨v3, r3, rfl, h3⟩ := LbLow.vs_cons r2 h2
  obtain ⟨v4, r4, rfl, h4⟩ := LbLow.vs_cons r3 h3
  obtain ⟨v5, r5, rfl, h5⟩ := LbLow.vs_cons r4 h4
  obtain ⟨v6, r6, rfl, h6⟩ := LbLow.vs_cons r5 h5
  obtain ⟨v7, r7, rfl, h7⟩ := LbLow.vs_cons r6 h6
  obtain ⟨v8, r8, rfl, h8⟩ := LbLow.vs_cons r7 h7
  obtain rfl := List.eq_nil_of_length_eq_zero h8
  exact ⟨v0, v1, v2, v3, v4, v5, v6, v7, v8, rfl⟩
theorem vs6 (vs : List Value) (h : vs.length = 6) : ∃ v0 v1 v2 v3 v4 v5, vs = [v0, v1, v2, v3, v4, v5] := by
  obtain ⟨v0, r0, rfl, h0⟩ := LbLow.vs_cons vs h
  obtain ⟨v1, r1, rfl, h1⟩ := LbLow.vs_cons r0 h0
  obtain ⟨v2, r2, rfl, h2⟩ := LbLow.vs_cons r1 h1
  obtain ⟨v3, r3, rfl, h3⟩ := LbLow.vs_cons r2 h2
  obtain ⟨v4, r4, rfl, h4⟩ := LbLow.vs_cons r3 h3
  obtain ⟨v5, r5, rfl, h5⟩ := LbLow.vs_cons r4 h4
  obtain rfl := List.eq_nil_of_length_eq_zero h5
  exact ⟨v0, v1, v2, v3, v4, v5, rfl⟩
theorem eq_pair (x y : Int × Nat) : (decide (y.1 = x.1) && decide (y.2 = x.2)) = decide (y = x) := by
  rw [← Bool.decide_and, decide_eq_decide]
  exact ⟨fun h => Prod.ext h.1 h.2, fun h => by rw [h]; exact ⟨rfl, rfl⟩⟩

set_option maxHeartbeats 16000000 in
theorem Check_any (a : Option Addr) (cap : Nat) (l : Labs) (w : World) (h : LRow w a l) (hl : l.length ≤ 1000) (hok : ∀ p ∈ l, ok p) :
    Calls Try.prog 21 #[.slice a l.length cap] w fun e w' => e = .returned (.tuple #[.int .i64 (chk l).1, .int .i64 (chk l).2]) ∧ Below w.heap.size w w' := by
  have Hrow := Lib.hid h
  have Hok := Lib.hid hok
  clear h hok
  obtain ⟨C, hC⟩ : ∃ C, chk l = C := ⟨_, rfl⟩
  have HC := Lib.hid hC
  rw [hC]
  clear hC
  go_enter Try.func21, Try.ntmps21
  go_wp2
  go_loopw [4] (fun i wr => ∃ k : Nat, k ≤ l.length ∧ i = .int .i64 k ∧ upTo l k ∧ Below w.heap.size w wr) (fun i _ => l.length - (intOf i).toNat)
  case atStart => exact ⟨0, Nat.zero_le _, rfl, fun j hj => by omega, Below.refl _ _⟩
  case round =>
    obtain ⟨k, hk, rfl, hup, hb⟩ := hrel
    generalize wr = wo at *
    have hbs := hb.size
    by_cases hlt : k < l.length
    · obtain ⟨b, off, rfl, hbl, hr⟩ := labs_row (Hrow.out.below hb) k hlt
      have hle := upTo_le hup hk
      have Hup := Lib.hid hup
      have hnx : (lab l k).2 < 2 ^ 240 := (Hok.out _ (lab_mem l k hlt)).2
      have HRk0 := Lib.hid (fun w' (hS : Below wo.heap.size wo w') => hr k hlt w' hS)
      have Hr := Lib.hid hr
      have hlt' : (k : Int) < (l.length : Int) := by omega
      have c0 : wo.cell? ⟨b, off + k * 31, none⟩ = some (.int .i64 (lab l k).1) := hr k hlt wo (Below.refl _ _) 0 _ (by rw [Array.getElem?_toList]; exact L.lv_zero _ _)
      have hBad : Hid (∀ e : Int, addE (l.take k) (lab l k) = e → e ≠ 0 → C = (k, e)) := Lib.hid (fun e he hne => by rw [← HC.out, chk_bad hlt Hup.out (by rw [he]; exact hne), he])
      clear hr hup
      by_cases h0 : (lab l k).1 < 0
      · have GC := Lib.hid (hBad.out 1 (by unfold addE; rw [if_pos (by unfold D.lr; rw [decide_eq_false (by omega)]; rfl)]) (by omega))
        generalize (lab l k).1 = z at *
        go_wp2
        go_ret2
        exact ⟨by rw [GC.out]; rfl, hb⟩
      by_cases h1 : 255 < (lab l k).1
      · have GC := Lib.hid (hBad.out 1 (by unfold addE; rw [if_pos (by unfold D.lr; rw [decide_eq_false (show ¬ (lab l k).1 ≤ 255 by omega)]; simp)]) (by omega))
        generalize (lab l k).1 = z at *
        go_wp2
        go_ret2
        exact ⟨by rw [GC.out]; rfl, hb⟩
      have hlr : D.lr (lab l k).1 = true := by unfold D.lr; rw [decide_eq_true (by omega), decide_eq_true (by omega)]; rfl
      by_cases h16 : k = 16
      · have GC := Lib.hid (hBad.out 5 (by unfold addE; rw [if_neg (by rw [hlr]; simp), if_pos (by rw [List.length_take]; omega)]) (by omega))
        have h16' : (16 : Int) ≤ (k : Int) := by omega
        clear hlr h16
        generalize (lab l k).1 = z at *
        go_wp2
        go_ret2
        exact ⟨by rw [GC.out]; rfl, hb⟩
      have h16' : ¬ (16 : Int) ≤ (k : Int) := by omega
      have Hlr := Lib.hid hlr
      clear hlr
      generalize hx : lab l k = x at *
      have Hx := Lib.hid hx
      clear hx
      go_wp2
      go_loopw [5] (fun i wr => ∃ j : Nat, j ≤ k ∧ i = .int .i64 j ∧ (∀ i, i < j → lab l i ≠ x) ∧ Below wo.heap.size wo wr) (fun i _ => k - (intOf i).toNat)
      case atStart => exact ⟨0, Nat.zero_le _, rfl, fun j hj => by omega, Below.refl _ _⟩
      case round =>
        obtain ⟨j, hj, rfl, hno, hbi⟩ := hrel
        have Hno := Lib.hid hno
        clear hno c0
        by_cases hjk : j < k
        · have HRj0 := Lib.hid (fun w' (hS : Below wo.heap.size wo w') => Hr.out j (by omega) w' hS)
          have hny : (lab l j).2 < 2 ^ 240 := (Hok.out _ (lab_mem l j (by omega))).2
          have hji : (j : Int) < (k : Int) := by omega
          have hjl : (j : Int) < (l.length : Int) := by omega
          have HY : Hid (lab l j = x → C = (k, 7)) := Lib.hid (fun e => hBad.out 7 (by
            unfold addE
            rw [if_neg (by rw [Hlr.out]; simp), if_neg (by rw [List.length_take]; omega), if_pos]
            rw [← e]
            rw [List.mem_take_iff_getElem]
            exact ⟨j, by omega, (lab_get l j (by omega)).symm⟩) (by omega))
          have HN : Hid (lab l j ≠ x → ∀ i, i < j + 1 → lab l i ≠ x) := Lib.hid (fun e i hi => by
            rcases Nat.lt_or_ge i j with h3 | h3
            · exact Hno.out i h3
            · obtain rfl : i = j := by omega
              exact e)
          generalize lab l j = y at *
          obtain ⟨q, hq⟩ : ∃ q, (decide (y.1 = x.1) && decide (y.2 = x.2)) = q := ⟨_, rfl⟩
          have HQ := Lib.hid hq
          rw [eq_pair] at hq
          have HQ2 := Lib.hid hq
          have HRj := Lib.hid (fun w' (hS : Below wr.heap.size wr w') => HRj0.out w' (hbi.trans (hS.mono hbi.size)))
          have HRk := Lib.hid (fun w' (hS : Below wr.heap.size wr w') => HRk0.out w' (hbi.trans (hS.mono hbi.size)))
          clear hq HRj0
          go_wp2
          refine region_gen (VG wr.heap.size [.val (.slice (some ⟨b, off, none⟩) l.length cap), .val (.int .i64 j), .val (.pointer (some ⟨b, off + j * 31, none⟩)), .val (.agg (L.lv y.1 y.2)), .val (.slice (some ⟨b, off, none⟩) l.length cap), .val (.int .i64 k), .val (.pointer (some ⟨b, off + k * 31, none⟩)), .val (.agg (L.lv x.1 x.2)), .val (.bool q)]) (BS wr) (by kernel_rfl) (by kernel_rfl) (Below.refl _ _).drew ⟨?_, ?_, ?_, ?_, ?_, ?_, ?_, ?_, ?_, trivial⟩ ?_
          · go_light; intro listed a' w' hs hS hun hdep
            have e0 : a'.eval (.tmp 0) = .slice (some ⟨b, off, none⟩) l.length cap := (hs.out 0 (by kernel_rfl)).trans (rfl)
            refine g_val (.slice (some ⟨b, off, none⟩) l.length cap) hS rfl ?_ rfl
            have hcn := BigFrame.eval_const a'; have hfn := BigFrame.eval_func a'; clear hs hdep; generalize a'.eval = ev at *; go_simp
          · go_light; intro listed a' w' hs hS hun hdep
            have e5 : a'.eval (.tmp 5) = .int .i64 j := (hs.out 5 (by kernel_rfl)).trans (rfl)
            refine g_val (.int .i64 j) hS rfl ?_ rfl
            have hcn := BigFrame.eval_const a'; have hfn := BigFrame.eval_func a'; clear hs hdep; generalize a'.eval = ev at *; go_simp
          · go_light; intro listed a' w' hs hS hun hdep
            have e35 : a'.eval (.tmp 35) = .slice (some ⟨b, off, none⟩) l.length cap := hs.eval 0 _ 35 rfl (hdep ⟨0, .data⟩ (by simp) rfl) rfl
            have e36 : a'.eval (.tmp 36) = .int .i64 j := hs.eval 1 _ 36 rfl (hdep ⟨1, .data⟩ (by simp) rfl) rfl
            refine g_val (.pointer (some ⟨b, off + j * 31, none⟩)) hS rfl ?_ rfl
            have hcn := BigFrame.eval_const a'; have hfn := BigFrame.eval_func a'; clear hs hdep; generalize a'.eval = ev at *; go_simp
          · go_light; intro listed a' w' hs hS hun hdep
            have e37 : a'.eval (.tmp 37) = .pointer (some ⟨b, off + j * 31, none⟩) := hs.eval 2 _ 37 rfl (hdep ⟨2, .data⟩ (by simp) rfl) rfl
            exact g_val (.agg (L.lv y.1 y.2)) hS rfl (run_op_load_mid rfl e37 (HRj.out w' hS)) rfl
          · go_light; intro listed a' w' hs hS hun hdep
            have e0 : a'.eval (.tmp 0) = .slice (some ⟨b, off, none⟩) l.length cap := (hs.out 0 (by kernel_rfl)).trans (rfl)
            refine g_val (.slice (some ⟨b, off, none⟩) l.length cap) hS rfl ?_ rfl
            have hcn := BigFrame.eval_const a'; have hfn := BigFrame.eval_func a'; clear hs hdep; generalize a'.eval = ev at *; go_simp
          · go_light; intro listed a' w' hs hS hun hdep
            have e4 : a'.eval (.tmp 4) = .int .i64 k := (hs.out 4 (by kernel_rfl)).trans (rfl)
            refine g_val (.int .i64 k) hS rfl ?_ rfl
            have hcn := BigFrame.eval_const a'; have hfn := BigFrame.eval_func a'; clear hs hdep; generalize a'.eval = ev at *; go_simp
          · go_light; intro listed a' w' hs hS hun hdep
            have e39 : a'.eval (.tmp 39) = .slice (some ⟨b, off, none⟩) l.length cap := hs.eval 4 _ 39 rfl (hdep ⟨4, .data⟩ (by simp) rfl) rfl
            have e40 : a'.eval (.tmp 40) = .int .i64 k := hs.eval 5 _ 40 rfl (hdep ⟨5, .data⟩ (by simp) rfl) rfl
            refine g_val (.pointer (some ⟨b, off + k * 31, none⟩)) hS rfl ?_ rfl
            have hcn := BigFrame.eval_const a'; have hfn := BigFrame.eval_func a'; clear hs hdep; generalize a'.eval = ev at *; go_simp
          · go_light; intro listed a' w' hs hS hun hdep
            have e41 : a'.eval (.tmp 41) = .pointer (some ⟨b, off + k * 31, none⟩) := hs.eval 6 _ 41 rfl (hdep ⟨6, .data⟩ (by simp) rfl) rfl
            exact g_val (.agg (L.lv x.1 x.2)) hS rfl (run_op_load_mid rfl e41 (HRk.out w' hS)) rfl
          · go_light; intro listed a' w' hs hS hun hdep
            have e38 : a'.eval (.tmp 38) = .agg (L.lv y.1 y.2) := hs.eval 3 _ 38 rfl (hdep ⟨3, .data⟩ (by simp) rfl) rfl
            have e42 : a'.eval (.tmp 42) = .agg (L.lv x.1 x.2) := hs.eval 7 _ 42 rfl (hdep ⟨7, .data⟩ (by simp) rfl) rfl
            exact g_val (.bool q) hS rfl ((run_op_eql_lab rfl e38 e42 hny hnx).trans (by rw [HQ.out])) rfl
          · intro vs w3 hlen hV listed hall hS
            obtain ⟨v0, v1, v2, v3, v4, v5, v6, v7, v8, rfl⟩ := vs9 vs (hlen.trans rfl)
            have q0 : v0 = .slice (some ⟨b, off, none⟩) l.length cap := hV 0 _ rfl
            have q1 : v1 = .int .i64 j := hV 1 _ rfl
            have q2 : v2 = .pointer (some ⟨b, off + j * 31, none⟩) := hV 2 _ rfl
            have q3 : v3 = .agg (L.lv y.1 y.2) := hV 3 _ rfl
            have q4 : v4 = .slice (some ⟨b, off, none⟩) l.length cap := hV 4 _ rfl
            have q5 : v5 = .int .i64 k := hV 5 _ rfl
            have q6 : v6 = .pointer (some ⟨b, off + k * 31, none⟩) := hV 6 _ rfl
            have q7 : v7 = .agg (L.lv x.1 x.2) := hV 7 _ rfl
            have q8 : v8 = .bool q := hV 8 _ rfl
            have hbel : Below wr.heap.size wr w3 := hS
            subst q0 q1 q2 q3 q4 q5 q6 q7 q8
            clear hV hS hall
            simp only [lays, Act.put, List.setIfInBounds_toArray, List.set_cons_zero, List.set_cons_succ]
            have hbz := hbi.trans (hbel.mono hbi.size)
            clear HRj HRk HQ hbel
            cases q
            · have G := Lib.hid (HN.out (of_decide_eq_false HQ2.out))
              go_wp2
              go_roundw
              case rel => exact ⟨j + 1, by omega, by go_num, G.out, hbz⟩
              case measure => simp [intOf]; omega
            · have GC := Lib.hid (HY.out (of_decide_eq_true HQ2.out))
              go_wp2
              go_ret2
              exact ⟨by rw [GC.out]; rfl, hb.trans (hbz.mono hbs)⟩
        · obtain rfl : j = k := by omega
          have hji : ¬ (j : Int) < (j : Int) := by omega
          have G : Hid (upTo l (j + 1)) := Lib.hid (upTo_succ Hup.out (by
            rw [Hx.out]
            unfold addE
            rw [if_neg (by rw [Hlr.out]; simp), if_neg (by rw [List.length_take]; omega), if_neg]
            rw [List.mem_take_iff_getElem]
            rintro ⟨i, hi, e⟩
            exact Hno.out i (by omega) (by rw [lab_get l i (by omega)]; exact e)))
          go_wp2
          go_roundw
          case rel => exact ⟨j + 1, by omega, by go_num, G.out, hb.trans (hbi.mono hbs)⟩
          case measure => simp [intOf]; omega
    · obtain rfl : k = l.length := by omega
      have hlt' : ¬ (l.length : Int) < (l.length : Int) := by omega
      have GC : Hid (C = (l.length, 0)) := Lib.hid (by rw [← HC.out]; exact chk_good hup)
      clear hup
      go_wp2
      go_ret2
      exact ⟨by rw [GC.out]; rfl, hb⟩

set_option maxHeartbeats 8000000 in
theorem RFind_any (a : Option Addr) (cap : Nat) (l : Labs) (x : Int × Nat) (w : World) (h : LRow w a l) (hl : l.length ≤ 1000) (hok : ∀ p ∈ l, ok p) (hnx : x.2 < 2 ^ 240) :
    Calls Try.prog 24 #[.slice a l.length cap, .agg (L.lv x.1 x.2)] w fun e w' => e = .returned (.int .i64 (findI l x)) ∧ Below w.heap.size w w' := by
  have hb0 : Below w.heap.size w (w.alloc (.cells (L.lv x.1 x.2) 29)) := (Below.refl _ w).alloc (Nat.le_refl _) _
  have Hrow := Lib.hid (h.below hb0)
  have HX0 := Lib.hid (LabAt.new w x.1 x.2)
  have Hok := Lib.hid hok
  have Hb0 := Lib.hid hb0
  clear h hok
  obtain ⟨C, hC⟩ : ∃ C, findI l x = C := ⟨_, rfl⟩
  have HC := Lib.hid hC
  rw [hC]
  clear hC
  go_enter Try.func24, Try.ntmps24
  go_wp2
  generalize w.alloc (.cells (L.lv x.1 x.2) 29) = W0 at *
  go_loopw [5] (fun i wr => ∃ k : Nat, k ≤ l.length ∧ i = .int .i64 k ∧ (∀ j, j < k → lab l j ≠ x) ∧ Below W0.heap.size W0 wr) (fun i _ => l.length - (intOf i).toNat)
  case atStart => exact ⟨0, Nat.zero_le _, rfl, fun j hj => by omega, Below.refl _ _⟩
  case round =>
    obtain ⟨k, hk, rfl, hno, hb⟩ := hrel
    have Hno := Lib.hid hno
    clear hno hb0
    by_cases hlt : k < l.length
    · obtain ⟨b, off, rfl, hbl, hr⟩ := labs_row (Hrow.out.below hb) k hlt
      have HRj := Lib.hid (fun w' (hS : Below wr.heap.size wr w') => hr k hlt w' hS)
      have HX := Lib.hid (HX0.out.below hb HX0.out.lt)
      have hny : (lab l k).2 < 2 ^ 240 := (Hok.out _ (lab_mem l k hlt)).2
      have hlt' : (k : Int) < (l.length : Int) := by omega
      have HY : Hid (lab l k = x → C = k) := Lib.hid (fun e => by rw [← HC.out]; exact findI_hit l x k hlt Hno.out e)
      have HN : Hid (lab l k ≠ x → ∀ i, i < k + 1 → lab l i ≠ x) := Lib.hid (fun e i hi => by
        rcases Nat.lt_or_ge i k with h3 | h3
        · exact Hno.out i h3
        · obtain rfl : i = k := by omega
          exact e)
      clear hr
      generalize lab l k = y at *
      obtain ⟨q, hq⟩ : ∃ q, (decide (y.1 = x.1) && decide (y.2 = x.2)) = q := ⟨_, rfl⟩
      have HQ := Lib.hid hq
      rw [eq_pair] at hq
      have HQ2 := Lib.hid hq
      clear hq
      go_wp2
      refine region_gen (VG wr.heap.size [.val (.slice (some ⟨b, off, none⟩) l.length cap), .val (.int .i64 k), .val (.pointer (some ⟨b, off + k * 31, none⟩)), .val (.agg (L.lv y.1 y.2)), .val (.agg (L.lv x.1 x.2)), .val (.bool q)]) (BS wr) (by kernel_rfl) (by kernel_rfl) (Below.refl _ _).drew ⟨?_, ?_, ?_, ?_, ?_, ?_, trivial⟩ ?_
      · go_light; intro listed a' w' hs hS hun hdep
        have e0 : a'.eval (.tmp 0) = .slice (some ⟨b, off, none⟩) l.length cap := (hs.out 0 (by kernel_rfl)).trans (rfl)
        refine g_val (.slice (some ⟨b, off, none⟩) l.length cap) hS rfl ?_ rfl
        have hcn := BigFrame.eval_const a'; have hfn := BigFrame.eval_func a'; clear hs hdep; generalize a'.eval = ev at *; go_simp
      · go_light; intro listed a' w' hs hS hun hdep
        have e5 : a'.eval (.tmp 5) = .int .i64 k := (hs.out 5 (by kernel_rfl)).trans (rfl)
        refine g_val (.int .i64 k) hS rfl ?_ rfl
        have hcn := BigFrame.eval_const a'; have hfn := BigFrame.eval_func a'; clear hs hdep; generalize a'.eval = ev at *; go_simp
      · go_light; intro listed a' w' hs hS hun hdep
        have e12 : a'.eval (.tmp 12) = .slice (some ⟨b, off, none⟩) l.length cap := hs.eval 0 _ 12 rfl (hdep ⟨0, .data⟩ (by simp) rfl) rfl
        have e13 : a'.eval (.tmp 13) = .int .i64 k := hs.eval 1 _ 13 rfl (hdep ⟨1, .data⟩ (by simp) rfl) rfl
        refine g_val (.pointer (some ⟨b, off + k * 31, none⟩)) hS rfl ?_ rfl
        have hcn := BigFrame.eval_const a'; have hfn := BigFrame.eval_func a'; clear hs hdep; generalize a'.eval = ev at *; go_simp
      · go_light; intro listed a' w' hs hS hun hdep
        have e14 : a'.eval (.tmp 14) = .pointer (some ⟨b, off + k * 31, none⟩) := hs.eval 2 _ 14 rfl (hdep ⟨2, .data⟩ (by simp) rfl) rfl
        exact g_val (.agg (L.lv y.1 y.2)) hS rfl (run_op_load_mid rfl e14 (HRj.out w' hS)) rfl
      · go_light; intro listed a' w' hs hS hun hdep
        have e3 : a'.eval (.tmp 3) = .pointer (some ⟨w.heap.size, 0, none⟩) := (hs.out 3 (by kernel_rfl)).trans (rfl)
        exact g_val (.agg (L.lv x.1 x.2)) hS rfl (run_op_load_lab rfl e3 (HX.out.below hS HX.out.lt)) rfl
      · go_light; intro listed a' w' hs hS hun hdep
        have e15 : a'.eval (.tmp 15) = .agg (L.lv y.1 y.2) := hs.eval 3 _ 15 rfl (hdep ⟨3, .data⟩ (by simp) rfl) rfl
        have e16 : a'.eval (.tmp 16) = .agg (L.lv x.1 x.2) := hs.eval 4 _ 16 rfl (hdep ⟨4, .data⟩ (by simp) rfl) rfl
        exact g_val (.bool q) hS rfl ((run_op_eql_lab rfl e15 e16 hny hnx).trans (by rw [HQ.out])) rfl
      · intro vs w3 hlen hV listed hall hS
        obtain ⟨v0, v1, v2, v3, v4, v5, rfl⟩ := vs6 vs (hlen.trans rfl)
        have q0 : v0 = .slice (some ⟨b, off, none⟩) l.length cap := hV 0 _ rfl
        have q1 : v1 = .int .i64 k := hV 1 _ rfl
        have q2 : v2 = .pointer (some ⟨b, off + k * 31, none⟩) := hV 2 _ rfl
        have q3 : v3 = .agg (L.lv y.1 y.2) := hV 3 _ rfl
        have q4 : v4 = .agg (L.lv x.1 x.2) := hV 4 _ rfl
        have q5 : v5 = .bool q := hV 5 _ rfl
        have hbel : Below wr.heap.size wr w3 := hS
        subst q0 q1 q2 q3 q4 q5
        clear hV hS hall
        simp only [lays, Act.put, List.setIfInBounds_toArray, List.set_cons_zero, List.set_cons_succ]
        have hbz := hb.trans (hbel.mono hb.size)
        clear HRj HQ hbel HX
        cases q
        · have G := Lib.hid (HN.out (of_decide_eq_false HQ2.out))
          go_wp2
          go_roundw
          case rel => exact ⟨k + 1, by omega, by go_num, G.out, hbz⟩
          case measure => simp [intOf]; omega
        · have GC := Lib.hid (HY.out (of_decide_eq_true HQ2.out))
          go_wp2
          go_ret
          exact ⟨by rw [GC.out]; rfl, Hb0.out.trans (hbz.mono Hb0.out.size)⟩
    · obtain rfl : k = l.length := by omega
      have hlt' : ¬ (l.length : Int) < (l.length : Int) := by omega
      have GC : Hid (C = -1) := Lib.hid (by rw [← HC.out]; exact findI_miss l x Hno.out)
      go_wp2
      go_ret
      exact ⟨by rw [GC.out]; rfl, Hb0.out.trans (hb.mono Hb0.out.size)⟩
#print axioms Check_any
#print axioms RFind_any
end Go.Proofs.Ytdipoaekdafbeaa
