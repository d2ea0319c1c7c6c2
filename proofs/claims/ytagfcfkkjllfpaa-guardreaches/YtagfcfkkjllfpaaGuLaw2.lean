/- GuardReaches, walked whole. -/
import Derived.Test.YtagfcfkkjllfpaaGuReach
import Derived.Test.YtagfcfkkjllfpaaGuTo
namespace Go.Proofs.Ytagfcfkkjllfpaa
open Go.RowKit
set_option maxRecDepth 100000
set_option linter.unusedVariables false
open Gd

-- REGIONS

namespace Gd
theorem rF_more (l : List Gu) (n x y k : Nat) (h : rF l n x y k = true) : ∀ K, k ≤ K → rF l n x y K = true
  | 0, hk => by obtain rfl : k = 0 := by omega
                exact h
  | K + 1, hk => by
    by_cases e : k = K + 1
    · subst e; exact h
    · have := rF_more l n x y k h K (by omega)
      simp [rF, this]
/-- What label it gets, by right rules, is one of those that its own may become. -/
theorem reach_to (l : List Gu) (q : Q) (n qn : Nat) (hq : q.l = (qn : Int)) (hqn : qn < n) (hok : l.all (Gu.ok n) = true) : ∃ tn : Nat, Gto l q = (tn : Int) ∧ tn < n ∧ rF l n qn tn l.length = true := by
  rcases U.first_cases (fun k => (gu l k).m q) l.length with ⟨h1, h2⟩ | ⟨k, h1, h2, _, h4⟩
  · refine ⟨qn, (Gto_none h1).trans hq, hqn, ?_⟩
    refine rF_more l n qn qn 0 ?_ _ (Nat.zero_le _)
    simp [rF]
  · have hk := List.all_eq_true.1 hok _ (gu_mem l k h2)
    have ht : 0 ≤ (gu l k).to ∧ (gu l k).to < (n : Int) := by
      unfold Gu.ok at hk
      simp only [Bool.and_eq_true, decide_eq_true_eq] at hk
      exact ⟨hk.1.2, hk.2⟩
    obtain ⟨tn, htn⟩ := Int.eq_ofNat_of_zero_le ht.1
    refine ⟨tn, (Gto_some h1).trans htn, by omega, ?_⟩
    refine rF_more l n qn tn (k + 1) ?_ _ (by omega)
    have hfit : U.fits (gu l k).l (qn : Int) = true := by
      have h5 : (gu l k).m q = true := h4
      unfold Gu.m conds at h5
      simp only [List.all_cons, id, Bool.and_eq_true] at h5
      rw [← hq]
      exact h5.2.1
    simp [rF, hk, hfit, htn]
end Gd

set_option maxHeartbeats 16000000 in
theorem greach_law (a0 : Option Addr) (cap : Nat) (l : List Gu) (lab : Int) (q : Gd.Q) (w : World) (h : GRow w a0 l) (hf : GFine l) (hq : q.fine) :
    Calls Try.prog 8 #[.slice a0 l.length cap, .int .i64 lab, .agg q.v.toArray] w fun e w' => e = .returned (.bool true) ∧ Below w.heap.size w w' := by
  have hb0 := (Below.refl _ w).alloc (Nat.le_refl _) (.cells q.v.toArray 47)
  by_cases h40 : 40 < l.length
  · have h40' : (40 : Int) < (l.length : Int) := by omega
    obtain ⟨qi, ql, qp, qs, qd⟩ := q
    simp only [Q.v] at *
    go_enter Try.func8, Try.ntmps8
    go_wp2_with fail
    refine (guard_awake _).mono ?_
    rintro e wz ⟨rfl, hbz⟩
    have hbwz := hb0.trans (hbz.mono hb0.size)
    go_wp2
    go_ret
    exact ⟨rfl, hbwz⟩
  have h40' : ¬ (40 : Int) < (l.length : Int) := by omega
  have hl : l.length ≤ 1000000 := by omega
  have hl40 : l.length ≤ 40 := by omega
  have HR := Lib.hid h
  have HF := Lib.hid hf
  have HRe := Lib.hid (fun w' (hb : Below w.heap.size w w') => Reach_any a0 cap l lab w' (h.below hb) hf hl)
  have HTO := Lib.hid (fun w' (hb : Below w.heap.size w w') => GTo_any a0 cap l q w' (h.below hb) hf hq hl)
  have HRI := Lib.hid (fun w' (hb : Below w.heap.size w w') => GRight_any (nn lab) a0 cap l w' (h.below hb) hf hl)
  have HRT := Lib.hid (fun qn (h1 : q.l = ((qn : Nat) : Int)) (h2 : qn < nn lab) (h3 : l.all (Gu.ok (nn lab)) = true) => reach_to l q (nn lab) qn h1 h2 h3)
  have Hnn : Hid (nn lab = (if lab < 0 then 0 else if 16 < lab then 16 else lab.toNat)) := Lib.hid rfl
  have hn := nn_le lab
  clear h hf hl h40 hq
  generalize hnq : nn lab = n at *
  clear hnq
  generalize Gto l q = gt at *
  have HrF := Lib.hid (fun (x y k : Nat) => (show rF l n x y (k + 1) = (rF l n x y k || ((gu l k).ok n && U.fits (gu l k).l x && ((gu l k).to == (y : Int)))) from rfl))
  have HrF0 := Lib.hid (fun (x y : Nat) => (show rF l n x y 0 = (x == y) from rfl))
  generalize hrf : rF l n = f at *
  clear hrf
  generalize hal : l.all (Gu.ok n) = al at *
  clear hal
  obtain ⟨qi, ql, qp, qs, qd⟩ := q
  simp only [Q.v] at hb0 ⊢
  simp only [] at HTO HRT
  have LA0 := Lib.hid (Lies.new w [.int .i64 qi, .int .i64 ql, .int .i64 qp, .int .u32 qs, .int .u32 qd] 47)
  go_enter Try.func8, Try.ntmps8
  go_wp2_with fail
  refine (HRe.out _ hb0).mono ?_
  rintro e w1 ⟨g, rfl, ⟨rb, hM⟩, hb1⟩
  have hbw1 := hb0.trans (hb1.mono hb0.size)
  have LA1 := Lib.hid (LA0.out.below hb1)
  have HM := Lib.hid hM
  clear HRe hM hb1 LA0 hb0
  go_upto_region 4 with fail
  go_cut [8] (fun v wr => v = .int .i64 n ∧ wr = w1)
  case first =>
    by_cases h0 : lab < 0
    · have e : n = 0 := by rw [Hnn.out, if_pos h0]
      subst e
      go_wp2_with fail
      go_meet
      exact ⟨rfl, rfl⟩
    · by_cases h1 : 16 < lab
      · have e : n = 16 := by rw [Hnn.out, if_neg h0, if_pos h1]
        subst e
        go_wp2_with fail
        go_meet
        exact ⟨rfl, rfl⟩
      · have e : lab = (n : Int) := by have := Hnn.out; rw [if_neg h0, if_neg h1] at this; omega
        subst e
        clear h0
        by_cases h3 : n = 0
        · subst h3
          go_wp2_with fail
          go_meet
          exact ⟨rfl, rfl⟩
        · have h4 : (0 : Int) < (n : Int) := by omega
          have h5 : ¬ (16 : Int) < (n : Int) := by omega
          clear h1 h3
          go_wp2_with fail
          go_meet
          exact ⟨rfl, rfl⟩
  obtain ⟨rfl, rfl⟩ := hcut
  generalize wc = w1 at *
  clear Hnn
  have hnn' : ((n : Int) == (n : Int)) = true := by simp
  go_wp2
  go_loopw [9] (fun i wr => ∃ (x : Nat), x ≤ n ∧ i = .int .i64 x ∧ Below w1.heap.size w1 wr ∧ Below w.heap.size w wr) (fun i _ => n - (intOf i).toNat)
  case atStart => exact ⟨0, Nat.zero_le _, rfl, Below.refl _ _, hbw1⟩
  case round =>
    obtain ⟨x, hx, rfl, hb, hbw⟩ := hrel
    by_cases hxn : x < n
    · have hxn2 : (x : Int) < (n : Int) := by omega
      have hM1 := HM.out.below hb
      have r0 := hM1.rowAt x hxn
      rw [if_pos hxn] at r0
      clear hM1
      go_wp2
      clear r0
      generalize wr = wo at *
      go_loopw [10] (fun i wr => ∃ (y : Nat), y ≤ n ∧ i = .int .i64 y ∧ Below w1.heap.size w1 wr ∧ Below w.heap.size w wr) (fun i _ => n - (intOf i).toNat)
      case atStart => exact ⟨0, Nat.zero_le _, rfl, hb, hbw⟩
      case round =>
        clear hb hbw
        obtain ⟨y, hy, rfl, hb, hbw⟩ := hrel
        by_cases hyn : y < n
        · have hyn2 : (y : Int) < (n : Int) := by omega
          go_wp2
          generalize wr = wp at *
          go_loopw [11, 12] (fun c i wr => ∃ (ii : Nat) (cv : Bool), ii ≤ l.length ∧ i = .int .i64 ii ∧ c = .bool cv ∧ Hid (cv = f x y ii) ∧ Below w1.heap.size w1 wr ∧ Below w.heap.size w wr) (fun _ i _ => l.length - (intOf i).toNat)
          case atStart => exact ⟨0, ((x : Int) == (y : Int)), Nat.zero_le _, rfl, rfl, Lib.hid (by rw [HrF0.out, Bool.eq_iff_iff, beq_iff_eq, beq_iff_eq]; omega), hb, hbw⟩
          case round =>
            clear hb hbw
            obtain ⟨ii, cv, hi, rfl, rfl, HC, hb, hbw⟩ := hrel
            by_cases hil : ii < l.length
            · have hil2 : (ii : Int) < (l.length : Int) := by omega
              obtain ⟨b, off, rfl, hbl, hL⟩ := (HR.out.below hbw).at ii _ (gu_get l ii hil)
              have hfin := HF.out _ (gu_mem l ii hil)
              have HStep := Lib.hid (HrF.out x y ii)
              have LR := Lib.hid hL
              clear hL
              generalize gu l ii = r at *
              obtain ⟨i, lb, sa, sb, da, db, p, tt⟩ := r
              have Hsa := Lib.hid hfin.1
              have Hda := Lib.hid hfin.2
              simp only [Gu.v] at LR
              clear hfin
              go_upto_region 19 with fail
              obtain ⟨m61, hm61⟩ : ∃ z_, (((⟨i, lb, sa, sb, da, db, p, tt⟩ : Gu).ok n)) = z_ := ⟨_, rfl⟩
              replace hm61 := Lib.hid hm61
              have C61 := Lib.hid (fun (w' : World) (hb : Below wr.heap.size wr w') => show Calls Try.prog 24 #[.int .i64 n, .agg #[.int .i64 i, .int .i64 lb, .int .u32 sa, .int .i64 sb, .int .u32 da, .int .i64 db, .int .i64 p, .int .i64 tt]] w' (fun e w'' => e = .returned (.bool m61) ∧ Below w'.heap.size w' w'') from (by rw [← hm61.out]; exact rgok_any n ⟨i, lb, sa, sb, da, db, p, tt⟩ w' Hsa.out Hda.out))
              obtain ⟨m68, hm68⟩ : ∃ z_, (lb == (-1)) = z_ := ⟨_, rfl⟩
              replace hm68 := Lib.hid hm68
              obtain ⟨m76, hm76⟩ : ∃ z_, (lb == x) = z_ := ⟨_, rfl⟩
              replace hm76 := Lib.hid hm76
              obtain ⟨m77, hm77⟩ : ∃ z_, (m68 || m76) = z_ := ⟨_, rfl⟩
              replace hm77 := Lib.hid hm77
              obtain ⟨m78, hm78⟩ : ∃ z_, (m61 && m77) = z_ := ⟨_, rfl⟩
              replace hm78 := Lib.hid hm78
              obtain ⟨m86, hm86⟩ : ∃ z_, (tt == y) = z_ := ⟨_, rfl⟩
              replace hm86 := Lib.hid hm86
              obtain ⟨m87, hm87⟩ : ∃ z_, (m78 && m86) = z_ := ⟨_, rfl⟩
              replace hm87 := Lib.hid hm87
              obtain ⟨m88, hm88⟩ : ∃ z_, (cv || m87) = z_ := ⟨_, rfl⟩
              replace hm88 := Lib.hid hm88
              refine region_seq 35 (VG wr.heap.size [.val (.bool cv), .val (.bool cv), .val (if cv = false then .int .i64 n else undef), .val (if cv = false then .slice (some ⟨b, off, none⟩) l.length cap else undef), .val (if cv = false then .int .i64 ii else undef), .val (if cv = false then .pointer (some ⟨b, off + ii * 8, none⟩) else undef), .val (if cv = false then .agg #[.int .i64 i, .int .i64 lb, .int .u32 sa, .int .i64 sb, .int .u32 da, .int .i64 db, .int .i64 p, .int .i64 tt] else undef), .val (if cv = false then .bool m61 else undef), .val (if cv = false then .bool m61 else undef), .val (if cv = false then (if m61 = true then .slice (some ⟨b, off, none⟩) l.length cap else undef) else undef), .val (if cv = false then (if m61 = true then .int .i64 ii else undef) else undef), .val (if cv = false then (if m61 = true then .pointer (some ⟨b, off + ii * 8, none⟩) else undef) else undef), .val (if cv = false then (if m61 = true then .pointer (some ⟨b, off + ii * 8 + 1, none⟩) else undef) else undef), .val (if cv = false then (if m61 = true then .int .i64 lb else undef) else undef), .val (if cv = false then (if m61 = true then .bool m68 else undef) else undef), .val (if cv = false then (if m61 = true then .bool m68 else undef) else undef), .val (if cv = false then (if m61 = true then (if m68 = false then .slice (some ⟨b, off, none⟩) l.length cap else undef) else undef) else undef), .val (if cv = false then (if m61 = true then (if m68 = false then .int .i64 ii else undef) else undef) else undef), .val (if cv = false then (if m61 = true then (if m68 = false then .pointer (some ⟨b, off + ii * 8, none⟩) else undef) else undef) else undef), .val (if cv = false then (if m61 = true then (if m68 = false then .pointer (some ⟨b, off + ii * 8 + 1, none⟩) else undef) else undef) else undef), .val (if cv = false then (if m61 = true then (if m68 = false then .int .i64 lb else undef) else undef) else undef), .val (if cv = false then (if m61 = true then (if m68 = false then .int .i64 x else undef) else undef) else undef), .val (if cv = false then (if m61 = true then (if m68 = false then .bool m76 else undef) else undef) else undef), .val (if cv = false then (if m61 = true then .bool m77 else undef) else undef), .val (if cv = false then .bool m78 else undef), .val (if cv = false then .bool m78 else undef), .val (if cv = false then (if m78 = true then .slice (some ⟨b, off, none⟩) l.length cap else undef) else undef), .val (if cv = false then (if m78 = true then .int .i64 ii else undef) else undef), .val (if cv = false then (if m78 = true then .pointer (some ⟨b, off + ii * 8, none⟩) else undef) else undef), .val (if cv = false then (if m78 = true then .pointer (some ⟨b, off + ii * 8 + 7, none⟩) else undef) else undef), .val (if cv = false then (if m78 = true then .int .i64 tt else undef) else undef), .val (if cv = false then (if m78 = true then .int .i64 y else undef) else undef), .val (if cv = false then (if m78 = true then .bool m86 else undef) else undef), .val (if cv = false then .bool m87 else undef), .val (.bool m88)]) (BS wr) (by kernel_rfl) (Below.refl _ _) ⟨?_, ?_, ?_, ?_, ?_, ?_, ?_, ?_, ?_, ?_, ?_, ?_, ?_, ?_, ?_, ?_, ?_, ?_, ?_, ?_, ?_, ?_, ?_, ?_, ?_, ?_, ?_, ?_, ?_, ?_, ?_, ?_, ?_, ?_, ?_, trivial⟩ ?_
              · go_light; intro listed a' w' hs hS hun hdep
                have n11 := hs.lat 0 35 hun _ rfl .phase (by simp) rfl
                have e11 : a'.eval (.tmp 11) = .bool cv := (hs.yet 11 35 (by kernel_rfl) n11).trans (rfl)
                exact g_val (.bool cv) hS rfl (op_move rfl e11) rfl
              · go_light; intro listed a' w' hs hS hun hdep
                have e54 : a'.eval (.tmp 54) = (.bool cv) := hs.eval 0 _ 54 rfl (hdep ⟨0, .data⟩ (by simp) rfl) rfl
                exact g_val (.bool cv) hS rfl (op_move rfl e54) rfl
              · go_light; intro listed a' w' hs hS hun hdep
                have eg : a'.eval (.tmp 55) = (.bool cv) := hs.eval 1 _ 55 rfl (hdep ⟨1, .guard⟩ (by simp) rfl) rfl
                have e8 : a'.eval (.tmp 8) = .int .i64 n := (hs.out 8 (by kernel_rfl)).trans (rfl)
                cases cv
                · exact g_val (.int .i64 n) hS (wanted_yes rfl rfl rfl eg) (op_move rfl e8) rfl
                · exact g_not hS (wanted_no rfl rfl rfl eg (by decide)) rfl
              · go_light; intro listed a' w' hs hS hun hdep
                have eg : a'.eval (.tmp 55) = (.bool cv) := hs.eval 1 _ 55 rfl (hdep ⟨1, .guard⟩ (by simp) rfl) rfl
                have e0 : a'.eval (.tmp 0) = .slice (some ⟨b, off, none⟩) l.length cap := (hs.out 0 (by kernel_rfl)).trans (rfl)
                cases cv
                · exact g_val (.slice (some ⟨b, off, none⟩) l.length cap) hS (wanted_yes rfl rfl rfl eg) (op_move rfl e0) rfl
                · exact g_not hS (wanted_no rfl rfl rfl eg (by decide)) rfl
              · go_light; intro listed a' w' hs hS hun hdep
                have eg : a'.eval (.tmp 55) = (.bool cv) := hs.eval 1 _ 55 rfl (hdep ⟨1, .guard⟩ (by simp) rfl) rfl
                have e12 : a'.eval (.tmp 12) = .int .i64 ii := (hs.out 12 (by kernel_rfl)).trans (rfl)
                cases cv
                · exact g_val (.int .i64 ii) hS (wanted_yes rfl rfl rfl eg) (op_move rfl e12) rfl
                · exact g_not hS (wanted_no rfl rfl rfl eg (by decide)) rfl
              · go_light; intro listed a' w' hs hS hun hdep
                have eg : a'.eval (.tmp 55) = (.bool cv) := hs.eval 1 _ 55 rfl (hdep ⟨1, .guard⟩ (by simp) rfl) rfl
                have e57 : a'.eval (.tmp 57) = (if cv = false then .slice (some ⟨b, off, none⟩) l.length cap else undef) := hs.eval 3 _ 57 rfl (hdep ⟨3, .data⟩ (by simp) rfl) rfl
                have e58 : a'.eval (.tmp 58) = (if cv = false then .int .i64 ii else undef) := hs.eval 4 _ 58 rfl (hdep ⟨4, .data⟩ (by simp) rfl) rfl
                cases cv
                · replace e57 := e57.trans (if_pos rfl)
                  replace e58 := e58.trans (if_pos rfl)
                  exact g_val (.pointer (some ⟨b, off + ii * 8, none⟩)) hS (wanted_yes rfl rfl rfl eg) (op_ixa rfl e57 e58 Try.underlying45 (by kernel_rfl) hil) rfl
                · exact g_not hS (wanted_no rfl rfl rfl eg (by decide)) rfl
              · go_light; intro listed a' w' hs hS hun hdep
                have eg : a'.eval (.tmp 55) = (.bool cv) := hs.eval 1 _ 55 rfl (hdep ⟨1, .guard⟩ (by simp) rfl) rfl
                have e59 : a'.eval (.tmp 59) = (if cv = false then .pointer (some ⟨b, off + ii * 8, none⟩) else undef) := hs.eval 5 _ 59 rfl (hdep ⟨5, .data⟩ (by simp) rfl) rfl
                cases cv
                · replace e59 := e59.trans (if_pos rfl)
                  exact g_val (.agg #[.int .i64 i, .int .i64 lb, .int .u32 sa, .int .i64 sb, .int .u32 da, .int .i64 db, .int .i64 p, .int .i64 tt]) hS (wanted_yes rfl rfl rfl eg) (op_ld [.int .i64 i, .int .i64 lb, .int .u32 sa, .int .i64 sb, .int .u32 da, .int .i64 db, .int .i64 p, .int .i64 tt] rfl e59 (LR.out.below hS) 0 (by first | rfl | simp) rfl Try.underlying50 rfl (by kernel_rfl)) rfl
                · exact g_not hS (wanted_no rfl rfl rfl eg (by decide)) rfl
              · go_light; intro listed a' w' hs hS hun hdep
                have eg : a'.eval (.tmp 55) = (.bool cv) := hs.eval 1 _ 55 rfl (hdep ⟨1, .guard⟩ (by simp) rfl) rfl
                have e56 : a'.eval (.tmp 56) = (if cv = false then .int .i64 n else undef) := hs.eval 2 _ 56 rfl (hdep ⟨2, .data⟩ (by simp) rfl) rfl
                have e60 : a'.eval (.tmp 60) = (if cv = false then .agg #[.int .i64 i, .int .i64 lb, .int .u32 sa, .int .i64 sb, .int .u32 da, .int .i64 db, .int .i64 p, .int .i64 tt] else undef) := hs.eval 6 _ 60 rfl (hdep ⟨6, .data⟩ (by simp) rfl) rfl
                cases cv
                · replace e56 := e56.trans (if_pos rfl)
                  replace e60 := e60.trans (if_pos rfl)
                  refine g_call 24 #[.int .i64 n, .agg #[.int .i64 i, .int .i64 lb, .int .u32 sa, .int .i64 sb, .int .u32 da, .int .i64 db, .int .i64 p, .int .i64 tt]] hS (wanted_yes rfl rfl rfl eg) ?_ ?_
                  · have hcn := BigFrame.eval_const a'; have hfn := BigFrame.eval_func a'; clear hs hdep; generalize a'.eval = ev at *; go_simp
                  · exact c_val (C61.out w' hS) rfl
                · exact g_not hS (wanted_no rfl rfl rfl eg (by decide)) rfl
              · go_light; intro listed a' w' hs hS hun hdep
                have eg : a'.eval (.tmp 55) = (.bool cv) := hs.eval 1 _ 55 rfl (hdep ⟨1, .guard⟩ (by simp) rfl) rfl
                have e61 : a'.eval (.tmp 61) = (if cv = false then .bool m61 else undef) := hs.eval 7 _ 61 rfl (hdep ⟨7, .data⟩ (by simp) rfl) rfl
                cases cv
                · replace e61 := e61.trans (if_pos rfl)
                  exact g_val (.bool m61) hS (wanted_yes rfl rfl rfl eg) (op_move rfl e61) rfl
                · exact g_not hS (wanted_no rfl rfl rfl eg (by decide)) rfl
              · go_light; intro listed a' w' hs hS hun hdep
                have eg : a'.eval (.tmp 62) = (if cv = false then .bool m61 else undef) := hs.eval 8 _ 62 rfl (hdep ⟨8, .guard⟩ (by simp) rfl) rfl
                have e0 : a'.eval (.tmp 0) = .slice (some ⟨b, off, none⟩) l.length cap := (hs.out 0 (by kernel_rfl)).trans (rfl)
                cases cv
                · replace eg := eg.trans (if_pos rfl)
                  cases m61
                  · exact g_not hS (wanted_no rfl rfl rfl eg (by decide)) rfl
                  · exact g_val (.slice (some ⟨b, off, none⟩) l.length cap) hS (wanted_yes rfl rfl rfl eg) (op_move rfl e0) rfl
                · replace eg := eg.trans (if_neg (by decide))
                  exact g_not hS (wanted_un rfl rfl rfl eg) rfl
              · go_light; intro listed a' w' hs hS hun hdep
                have eg : a'.eval (.tmp 62) = (if cv = false then .bool m61 else undef) := hs.eval 8 _ 62 rfl (hdep ⟨8, .guard⟩ (by simp) rfl) rfl
                have e12 : a'.eval (.tmp 12) = .int .i64 ii := (hs.out 12 (by kernel_rfl)).trans (rfl)
                cases cv
                · replace eg := eg.trans (if_pos rfl)
                  cases m61
                  · exact g_not hS (wanted_no rfl rfl rfl eg (by decide)) rfl
                  · exact g_val (.int .i64 ii) hS (wanted_yes rfl rfl rfl eg) (op_move rfl e12) rfl
                · replace eg := eg.trans (if_neg (by decide))
                  exact g_not hS (wanted_un rfl rfl rfl eg) rfl
              · go_light; intro listed a' w' hs hS hun hdep
                have eg : a'.eval (.tmp 62) = (if cv = false then .bool m61 else undef) := hs.eval 8 _ 62 rfl (hdep ⟨8, .guard⟩ (by simp) rfl) rfl
                have e63 : a'.eval (.tmp 63) = (if cv = false then (if m61 = true then .slice (some ⟨b, off, none⟩) l.length cap else undef) else undef) := hs.eval 9 _ 63 rfl (hdep ⟨9, .data⟩ (by simp) rfl) rfl
                have e64 : a'.eval (.tmp 64) = (if cv = false then (if m61 = true then .int .i64 ii else undef) else undef) := hs.eval 10 _ 64 rfl (hdep ⟨10, .data⟩ (by simp) rfl) rfl
                cases cv
                · replace eg := eg.trans (if_pos rfl)
                  cases m61
                  · exact g_not hS (wanted_no rfl rfl rfl eg (by decide)) rfl
                  · replace e63 := e63.trans (if_pos rfl)
                    replace e63 := e63.trans (if_pos rfl)
                    replace e64 := e64.trans (if_pos rfl)
                    replace e64 := e64.trans (if_pos rfl)
                    exact g_val (.pointer (some ⟨b, off + ii * 8, none⟩)) hS (wanted_yes rfl rfl rfl eg) (op_ixa rfl e63 e64 Try.underlying45 (by kernel_rfl) hil) rfl
                · replace eg := eg.trans (if_neg (by decide))
                  exact g_not hS (wanted_un rfl rfl rfl eg) rfl
              · go_light; intro listed a' w' hs hS hun hdep
                have eg : a'.eval (.tmp 62) = (if cv = false then .bool m61 else undef) := hs.eval 8 _ 62 rfl (hdep ⟨8, .guard⟩ (by simp) rfl) rfl
                have e65 : a'.eval (.tmp 65) = (if cv = false then (if m61 = true then .pointer (some ⟨b, off + ii * 8, none⟩) else undef) else undef) := hs.eval 11 _ 65 rfl (hdep ⟨11, .data⟩ (by simp) rfl) rfl
                cases cv
                · replace eg := eg.trans (if_pos rfl)
                  cases m61
                  · exact g_not hS (wanted_no rfl rfl rfl eg (by decide)) rfl
                  · replace e65 := e65.trans (if_pos rfl)
                    replace e65 := e65.trans (if_pos rfl)
                    refine g_val (.pointer (some ⟨b, off + ii * 8 + 1, none⟩)) hS (wanted_yes rfl rfl rfl eg) ?_ rfl
                    have hcn := BigFrame.eval_const a'; have hfn := BigFrame.eval_func a'; clear hs hdep; generalize a'.eval = ev at *; go_simp
                · replace eg := eg.trans (if_neg (by decide))
                  exact g_not hS (wanted_un rfl rfl rfl eg) rfl
              · go_light; intro listed a' w' hs hS hun hdep
                have eg : a'.eval (.tmp 62) = (if cv = false then .bool m61 else undef) := hs.eval 8 _ 62 rfl (hdep ⟨8, .guard⟩ (by simp) rfl) rfl
                have e66 : a'.eval (.tmp 66) = (if cv = false then (if m61 = true then .pointer (some ⟨b, off + ii * 8 + 1, none⟩) else undef) else undef) := hs.eval 12 _ 66 rfl (hdep ⟨12, .data⟩ (by simp) rfl) rfl
                cases cv
                · replace eg := eg.trans (if_pos rfl)
                  cases m61
                  · exact g_not hS (wanted_no rfl rfl rfl eg (by decide)) rfl
                  · replace e66 := e66.trans (if_pos rfl)
                    replace e66 := e66.trans (if_pos rfl)
                    exact g_val (.int .i64 lb) hS (wanted_yes rfl rfl rfl eg) (op_ld1 (.int .i64 lb) rfl e66 (LR.out.below hS) 1 (by first | rfl | simp) rfl Try.underlying3 rfl) rfl
                · replace eg := eg.trans (if_neg (by decide))
                  exact g_not hS (wanted_un rfl rfl rfl eg) rfl
              · go_light; intro listed a' w' hs hS hun hdep
                have eg : a'.eval (.tmp 62) = (if cv = false then .bool m61 else undef) := hs.eval 8 _ 62 rfl (hdep ⟨8, .guard⟩ (by simp) rfl) rfl
                have e67 : a'.eval (.tmp 67) = (if cv = false then (if m61 = true then .int .i64 lb else undef) else undef) := hs.eval 13 _ 67 rfl (hdep ⟨13, .data⟩ (by simp) rfl) rfl
                cases cv
                · replace eg := eg.trans (if_pos rfl)
                  cases m61
                  · exact g_not hS (wanted_no rfl rfl rfl eg (by decide)) rfl
                  · replace e67 := e67.trans (if_pos rfl)
                    replace e67 := e67.trans (if_pos rfl)
                    refine g_val (.bool m68) hS (wanted_yes rfl rfl rfl eg) ?_ rfl
                    rw [← hm68.out]
                    have hcn := BigFrame.eval_const a'; have hfn := BigFrame.eval_func a'; clear hs hdep; generalize a'.eval = ev at *; go_simp; try rfl
                · replace eg := eg.trans (if_neg (by decide))
                  exact g_not hS (wanted_un rfl rfl rfl eg) rfl
              · go_light; intro listed a' w' hs hS hun hdep
                have eg : a'.eval (.tmp 62) = (if cv = false then .bool m61 else undef) := hs.eval 8 _ 62 rfl (hdep ⟨8, .guard⟩ (by simp) rfl) rfl
                have e68 : a'.eval (.tmp 68) = (if cv = false then (if m61 = true then .bool m68 else undef) else undef) := hs.eval 14 _ 68 rfl (hdep ⟨14, .data⟩ (by simp) rfl) rfl
                cases cv
                · replace eg := eg.trans (if_pos rfl)
                  cases m61
                  · exact g_not hS (wanted_no rfl rfl rfl eg (by decide)) rfl
                  · replace e68 := e68.trans (if_pos rfl)
                    replace e68 := e68.trans (if_pos rfl)
                    exact g_val (.bool m68) hS (wanted_yes rfl rfl rfl eg) (op_move rfl e68) rfl
                · replace eg := eg.trans (if_neg (by decide))
                  exact g_not hS (wanted_un rfl rfl rfl eg) rfl
              · go_light; intro listed a' w' hs hS hun hdep
                have eg : a'.eval (.tmp 69) = (if cv = false then (if m61 = true then .bool m68 else undef) else undef) := hs.eval 15 _ 69 rfl (hdep ⟨15, .guard⟩ (by simp) rfl) rfl
                have e0 : a'.eval (.tmp 0) = .slice (some ⟨b, off, none⟩) l.length cap := (hs.out 0 (by kernel_rfl)).trans (rfl)
                cases cv
                · replace eg := eg.trans (if_pos rfl)
                  cases m61
                  · replace eg := eg.trans (if_neg (by decide))
                    exact g_not hS (wanted_un rfl rfl rfl eg) rfl
                  · replace eg := eg.trans (if_pos rfl)
                    cases m68
                    · exact g_val (.slice (some ⟨b, off, none⟩) l.length cap) hS (wanted_yes rfl rfl rfl eg) (op_move rfl e0) rfl
                    · exact g_not hS (wanted_no rfl rfl rfl eg (by decide)) rfl
                · replace eg := eg.trans (if_neg (by decide))
                  exact g_not hS (wanted_un rfl rfl rfl eg) rfl
              · go_light; intro listed a' w' hs hS hun hdep
                have eg : a'.eval (.tmp 69) = (if cv = false then (if m61 = true then .bool m68 else undef) else undef) := hs.eval 15 _ 69 rfl (hdep ⟨15, .guard⟩ (by simp) rfl) rfl
                have e12 : a'.eval (.tmp 12) = .int .i64 ii := (hs.out 12 (by kernel_rfl)).trans (rfl)
                cases cv
                · replace eg := eg.trans (if_pos rfl)
                  cases m61
                  · replace eg := eg.trans (if_neg (by decide))
                    exact g_not hS (wanted_un rfl rfl rfl eg) rfl
                  · replace eg := eg.trans (if_pos rfl)
                    cases m68
                    · exact g_val (.int .i64 ii) hS (wanted_yes rfl rfl rfl eg) (op_move rfl e12) rfl
                    · exact g_not hS (wanted_no rfl rfl rfl eg (by decide)) rfl
                · replace eg := eg.trans (if_neg (by decide))
                  exact g_not hS (wanted_un rfl rfl rfl eg) rfl
              · go_light; intro listed a' w' hs hS hun hdep
                have eg : a'.eval (.tmp 69) = (if cv = false then (if m61 = true then .bool m68 else undef) else undef) := hs.eval 15 _ 69 rfl (hdep ⟨15, .guard⟩ (by simp) rfl) rfl
                have e70 : a'.eval (.tmp 70) = (if cv = false then (if m61 = true then (if m68 = false then .slice (some ⟨b, off, none⟩) l.length cap else undef) else undef) else undef) := hs.eval 16 _ 70 rfl (hdep ⟨16, .data⟩ (by simp) rfl) rfl
                have e71 : a'.eval (.tmp 71) = (if cv = false then (if m61 = true then (if m68 = false then .int .i64 ii else undef) else undef) else undef) := hs.eval 17 _ 71 rfl (hdep ⟨17, .data⟩ (by simp) rfl) rfl
                cases cv
                · replace eg := eg.trans (if_pos rfl)
                  cases m61
                  · replace eg := eg.trans (if_neg (by decide))
                    exact g_not hS (wanted_un rfl rfl rfl eg) rfl
                  · replace eg := eg.trans (if_pos rfl)
                    cases m68
                    · replace e70 := e70.trans (if_pos rfl)
                      replace e70 := e70.trans (if_pos rfl)
                      replace e70 := e70.trans (if_pos rfl)
                      replace e71 := e71.trans (if_pos rfl)
                      replace e71 := e71.trans (if_pos rfl)
                      replace e71 := e71.trans (if_pos rfl)
                      exact g_val (.pointer (some ⟨b, off + ii * 8, none⟩)) hS (wanted_yes rfl rfl rfl eg) (op_ixa rfl e70 e71 Try.underlying45 (by kernel_rfl) hil) rfl
                    · exact g_not hS (wanted_no rfl rfl rfl eg (by decide)) rfl
                · replace eg := eg.trans (if_neg (by decide))
                  exact g_not hS (wanted_un rfl rfl rfl eg) rfl
              · go_light; intro listed a' w' hs hS hun hdep
                have eg : a'.eval (.tmp 69) = (if cv = false then (if m61 = true then .bool m68 else undef) else undef) := hs.eval 15 _ 69 rfl (hdep ⟨15, .guard⟩ (by simp) rfl) rfl
                have e72 : a'.eval (.tmp 72) = (if cv = false then (if m61 = true then (if m68 = false then .pointer (some ⟨b, off + ii * 8, none⟩) else undef) else undef) else undef) := hs.eval 18 _ 72 rfl (hdep ⟨18, .data⟩ (by simp) rfl) rfl
                cases cv
                · replace eg := eg.trans (if_pos rfl)
                  cases m61
                  · replace eg := eg.trans (if_neg (by decide))
                    exact g_not hS (wanted_un rfl rfl rfl eg) rfl
                  · replace eg := eg.trans (if_pos rfl)
                    cases m68
                    · replace e72 := e72.trans (if_pos rfl)
                      replace e72 := e72.trans (if_pos rfl)
                      replace e72 := e72.trans (if_pos rfl)
                      refine g_val (.pointer (some ⟨b, off + ii * 8 + 1, none⟩)) hS (wanted_yes rfl rfl rfl eg) ?_ rfl
                      have hcn := BigFrame.eval_const a'; have hfn := BigFrame.eval_func a'; clear hs hdep; generalize a'.eval = ev at *; go_simp
                    · exact g_not hS (wanted_no rfl rfl rfl eg (by decide)) rfl
                · replace eg := eg.trans (if_neg (by decide))
                  exact g_not hS (wanted_un rfl rfl rfl eg) rfl
              · go_light; intro listed a' w' hs hS hun hdep
                have eg : a'.eval (.tmp 69) = (if cv = false then (if m61 = true then .bool m68 else undef) else undef) := hs.eval 15 _ 69 rfl (hdep ⟨15, .guard⟩ (by simp) rfl) rfl
                have e73 : a'.eval (.tmp 73) = (if cv = false then (if m61 = true then (if m68 = false then .pointer (some ⟨b, off + ii * 8 + 1, none⟩) else undef) else undef) else undef) := hs.eval 19 _ 73 rfl (hdep ⟨19, .data⟩ (by simp) rfl) rfl
                cases cv
                · replace eg := eg.trans (if_pos rfl)
                  cases m61
                  · replace eg := eg.trans (if_neg (by decide))
                    exact g_not hS (wanted_un rfl rfl rfl eg) rfl
                  · replace eg := eg.trans (if_pos rfl)
                    cases m68
                    · replace e73 := e73.trans (if_pos rfl)
                      replace e73 := e73.trans (if_pos rfl)
                      replace e73 := e73.trans (if_pos rfl)
                      exact g_val (.int .i64 lb) hS (wanted_yes rfl rfl rfl eg) (op_ld1 (.int .i64 lb) rfl e73 (LR.out.below hS) 1 (by first | rfl | simp) rfl Try.underlying3 rfl) rfl
                    · exact g_not hS (wanted_no rfl rfl rfl eg (by decide)) rfl
                · replace eg := eg.trans (if_neg (by decide))
                  exact g_not hS (wanted_un rfl rfl rfl eg) rfl
              · go_light; intro listed a' w' hs hS hun hdep
                have eg : a'.eval (.tmp 69) = (if cv = false then (if m61 = true then .bool m68 else undef) else undef) := hs.eval 15 _ 69 rfl (hdep ⟨15, .guard⟩ (by simp) rfl) rfl
                have e9 : a'.eval (.tmp 9) = .int .i64 x := (hs.out 9 (by kernel_rfl)).trans (rfl)
                cases cv
                · replace eg := eg.trans (if_pos rfl)
                  cases m61
                  · replace eg := eg.trans (if_neg (by decide))
                    exact g_not hS (wanted_un rfl rfl rfl eg) rfl
                  · replace eg := eg.trans (if_pos rfl)
                    cases m68
                    · exact g_val (.int .i64 x) hS (wanted_yes rfl rfl rfl eg) (op_move rfl e9) rfl
                    · exact g_not hS (wanted_no rfl rfl rfl eg (by decide)) rfl
                · replace eg := eg.trans (if_neg (by decide))
                  exact g_not hS (wanted_un rfl rfl rfl eg) rfl
              · go_light; intro listed a' w' hs hS hun hdep
                have eg : a'.eval (.tmp 69) = (if cv = false then (if m61 = true then .bool m68 else undef) else undef) := hs.eval 15 _ 69 rfl (hdep ⟨15, .guard⟩ (by simp) rfl) rfl
                have e74 : a'.eval (.tmp 74) = (if cv = false then (if m61 = true then (if m68 = false then .int .i64 lb else undef) else undef) else undef) := hs.eval 20 _ 74 rfl (hdep ⟨20, .data⟩ (by simp) rfl) rfl
                have e75 : a'.eval (.tmp 75) = (if cv = false then (if m61 = true then (if m68 = false then .int .i64 x else undef) else undef) else undef) := hs.eval 21 _ 75 rfl (hdep ⟨21, .data⟩ (by simp) rfl) rfl
                cases cv
                · replace eg := eg.trans (if_pos rfl)
                  cases m61
                  · replace eg := eg.trans (if_neg (by decide))
                    exact g_not hS (wanted_un rfl rfl rfl eg) rfl
                  · replace eg := eg.trans (if_pos rfl)
                    cases m68
                    · replace e74 := e74.trans (if_pos rfl)
                      replace e74 := e74.trans (if_pos rfl)
                      replace e74 := e74.trans (if_pos rfl)
                      replace e75 := e75.trans (if_pos rfl)
                      replace e75 := e75.trans (if_pos rfl)
                      replace e75 := e75.trans (if_pos rfl)
                      refine g_val (.bool m76) hS (wanted_yes rfl rfl rfl eg) ?_ rfl
                      rw [← hm76.out]
                      have hcn := BigFrame.eval_const a'; have hfn := BigFrame.eval_func a'; clear hs hdep; generalize a'.eval = ev at *; go_simp; try rfl
                    · exact g_not hS (wanted_no rfl rfl rfl eg (by decide)) rfl
                · replace eg := eg.trans (if_neg (by decide))
                  exact g_not hS (wanted_un rfl rfl rfl eg) rfl
              · go_light; intro listed a' w' hs hS hun hdep
                have eg : a'.eval (.tmp 62) = (if cv = false then .bool m61 else undef) := hs.eval 8 _ 62 rfl (hdep ⟨8, .guard⟩ (by simp) rfl) rfl
                have e69 : a'.eval (.tmp 69) = (if cv = false then (if m61 = true then .bool m68 else undef) else undef) := hs.eval 15 _ 69 rfl (hdep ⟨15, .data⟩ (by simp) rfl) rfl
                have e76 : a'.eval (.tmp 76) = (if cv = false then (if m61 = true then (if m68 = false then .bool m76 else undef) else undef) else undef) := hs.eval 22 _ 76 rfl (hdep ⟨22, .data⟩ (by simp) rfl) rfl
                cases cv
                · replace eg := eg.trans (if_pos rfl)
                  cases m61
                  · exact g_not hS (wanted_no rfl rfl rfl eg (by decide)) rfl
                  · replace e69 := e69.trans (if_pos rfl)
                    replace e69 := e69.trans (if_pos rfl)
                    replace e76 := e76.trans (if_pos rfl)
                    replace e76 := e76.trans (if_pos rfl)
                    refine g_val (.bool m77) hS (wanted_yes rfl rfl rfl eg) ?_ rfl
                    cases m68
                    · replace e76 := e76.trans (if_pos rfl)
                      exact (op_pick_f rfl e69 e76).trans (by rw [← hm77.out]; first | rfl | simp)
                    · replace e76 := e76.trans (if_neg (by decide))
                      exact (op_pick_t rfl e69 (BigFrame.eval_const a' _)).trans (by rw [← hm77.out]; first | rfl | simp)
                · replace eg := eg.trans (if_neg (by decide))
                  exact g_not hS (wanted_un rfl rfl rfl eg) rfl
              · go_light; intro listed a' w' hs hS hun hdep
                have eg : a'.eval (.tmp 55) = (.bool cv) := hs.eval 1 _ 55 rfl (hdep ⟨1, .guard⟩ (by simp) rfl) rfl
                have e62 : a'.eval (.tmp 62) = (if cv = false then .bool m61 else undef) := hs.eval 8 _ 62 rfl (hdep ⟨8, .data⟩ (by simp) rfl) rfl
                have e77 : a'.eval (.tmp 77) = (if cv = false then (if m61 = true then .bool m77 else undef) else undef) := hs.eval 23 _ 77 rfl (hdep ⟨23, .data⟩ (by simp) rfl) rfl
                cases cv
                · replace e62 := e62.trans (if_pos rfl)
                  replace e77 := e77.trans (if_pos rfl)
                  refine g_val (.bool m78) hS (wanted_yes rfl rfl rfl eg) ?_ rfl
                  cases m61
                  · replace e77 := e77.trans (if_neg (by decide))
                    exact (op_pick_f rfl e62 (BigFrame.eval_const a' _)).trans (by rw [← hm78.out]; first | rfl | simp)
                  · replace e77 := e77.trans (if_pos rfl)
                    exact (op_pick_t rfl e62 e77).trans (by rw [← hm78.out]; first | rfl | simp)
                · exact g_not hS (wanted_no rfl rfl rfl eg (by decide)) rfl
              · go_light; intro listed a' w' hs hS hun hdep
                have eg : a'.eval (.tmp 55) = (.bool cv) := hs.eval 1 _ 55 rfl (hdep ⟨1, .guard⟩ (by simp) rfl) rfl
                have e78 : a'.eval (.tmp 78) = (if cv = false then .bool m78 else undef) := hs.eval 24 _ 78 rfl (hdep ⟨24, .data⟩ (by simp) rfl) rfl
                cases cv
                · replace e78 := e78.trans (if_pos rfl)
                  exact g_val (.bool m78) hS (wanted_yes rfl rfl rfl eg) (op_move rfl e78) rfl
                · exact g_not hS (wanted_no rfl rfl rfl eg (by decide)) rfl
              · go_light; intro listed a' w' hs hS hun hdep
                have eg : a'.eval (.tmp 79) = (if cv = false then .bool m78 else undef) := hs.eval 25 _ 79 rfl (hdep ⟨25, .guard⟩ (by simp) rfl) rfl
                have e0 : a'.eval (.tmp 0) = .slice (some ⟨b, off, none⟩) l.length cap := (hs.out 0 (by kernel_rfl)).trans (rfl)
                cases cv
                · replace eg := eg.trans (if_pos rfl)
                  cases m78
                  · exact g_not hS (wanted_no rfl rfl rfl eg (by decide)) rfl
                  · exact g_val (.slice (some ⟨b, off, none⟩) l.length cap) hS (wanted_yes rfl rfl rfl eg) (op_move rfl e0) rfl
                · replace eg := eg.trans (if_neg (by decide))
                  exact g_not hS (wanted_un rfl rfl rfl eg) rfl
              · go_light; intro listed a' w' hs hS hun hdep
                have eg : a'.eval (.tmp 79) = (if cv = false then .bool m78 else undef) := hs.eval 25 _ 79 rfl (hdep ⟨25, .guard⟩ (by simp) rfl) rfl
                have e12 : a'.eval (.tmp 12) = .int .i64 ii := (hs.out 12 (by kernel_rfl)).trans (rfl)
                cases cv
                · replace eg := eg.trans (if_pos rfl)
                  cases m78
                  · exact g_not hS (wanted_no rfl rfl rfl eg (by decide)) rfl
                  · exact g_val (.int .i64 ii) hS (wanted_yes rfl rfl rfl eg) (op_move rfl e12) rfl
                · replace eg := eg.trans (if_neg (by decide))
                  exact g_not hS (wanted_un rfl rfl rfl eg) rfl
              · go_light; intro listed a' w' hs hS hun hdep
                have eg : a'.eval (.tmp 79) = (if cv = false then .bool m78 else undef) := hs.eval 25 _ 79 rfl (hdep ⟨25, .guard⟩ (by simp) rfl) rfl
                have e80 : a'.eval (.tmp 80) = (if cv = false then (if m78 = true then .slice (some ⟨b, off, none⟩) l.length cap else undef) else undef) := hs.eval 26 _ 80 rfl (hdep ⟨26, .data⟩ (by simp) rfl) rfl
                have e81 : a'.eval (.tmp 81) = (if cv = false then (if m78 = true then .int .i64 ii else undef) else undef) := hs.eval 27 _ 81 rfl (hdep ⟨27, .data⟩ (by simp) rfl) rfl
                cases cv
                · replace eg := eg.trans (if_pos rfl)
                  cases m78
                  · exact g_not hS (wanted_no rfl rfl rfl eg (by decide)) rfl
                  · replace e80 := e80.trans (if_pos rfl)
                    replace e80 := e80.trans (if_pos rfl)
                    replace e81 := e81.trans (if_pos rfl)
                    replace e81 := e81.trans (if_pos rfl)
                    exact g_val (.pointer (some ⟨b, off + ii * 8, none⟩)) hS (wanted_yes rfl rfl rfl eg) (op_ixa rfl e80 e81 Try.underlying45 (by kernel_rfl) hil) rfl
                · replace eg := eg.trans (if_neg (by decide))
                  exact g_not hS (wanted_un rfl rfl rfl eg) rfl
              · go_light; intro listed a' w' hs hS hun hdep
                have eg : a'.eval (.tmp 79) = (if cv = false then .bool m78 else undef) := hs.eval 25 _ 79 rfl (hdep ⟨25, .guard⟩ (by simp) rfl) rfl
                have e82 : a'.eval (.tmp 82) = (if cv = false then (if m78 = true then .pointer (some ⟨b, off + ii * 8, none⟩) else undef) else undef) := hs.eval 28 _ 82 rfl (hdep ⟨28, .data⟩ (by simp) rfl) rfl
                cases cv
                · replace eg := eg.trans (if_pos rfl)
                  cases m78
                  · exact g_not hS (wanted_no rfl rfl rfl eg (by decide)) rfl
                  · replace e82 := e82.trans (if_pos rfl)
                    replace e82 := e82.trans (if_pos rfl)
                    refine g_val (.pointer (some ⟨b, off + ii * 8 + 7, none⟩)) hS (wanted_yes rfl rfl rfl eg) ?_ rfl
                    have hcn := BigFrame.eval_const a'; have hfn := BigFrame.eval_func a'; clear hs hdep; generalize a'.eval = ev at *; go_simp
                · replace eg := eg.trans (if_neg (by decide))
                  exact g_not hS (wanted_un rfl rfl rfl eg) rfl
              · go_light; intro listed a' w' hs hS hun hdep
                have eg : a'.eval (.tmp 79) = (if cv = false then .bool m78 else undef) := hs.eval 25 _ 79 rfl (hdep ⟨25, .guard⟩ (by simp) rfl) rfl
                have e83 : a'.eval (.tmp 83) = (if cv = false then (if m78 = true then .pointer (some ⟨b, off + ii * 8 + 7, none⟩) else undef) else undef) := hs.eval 29 _ 83 rfl (hdep ⟨29, .data⟩ (by simp) rfl) rfl
                cases cv
                · replace eg := eg.trans (if_pos rfl)
                  cases m78
                  · exact g_not hS (wanted_no rfl rfl rfl eg (by decide)) rfl
                  · replace e83 := e83.trans (if_pos rfl)
                    replace e83 := e83.trans (if_pos rfl)
                    exact g_val (.int .i64 tt) hS (wanted_yes rfl rfl rfl eg) (op_ld1 (.int .i64 tt) rfl e83 (LR.out.below hS) 7 (by first | rfl | simp) rfl Try.underlying3 rfl) rfl
                · replace eg := eg.trans (if_neg (by decide))
                  exact g_not hS (wanted_un rfl rfl rfl eg) rfl
              · go_light; intro listed a' w' hs hS hun hdep
                have eg : a'.eval (.tmp 79) = (if cv = false then .bool m78 else undef) := hs.eval 25 _ 79 rfl (hdep ⟨25, .guard⟩ (by simp) rfl) rfl
                have e10 : a'.eval (.tmp 10) = .int .i64 y := (hs.out 10 (by kernel_rfl)).trans (rfl)
                cases cv
                · replace eg := eg.trans (if_pos rfl)
                  cases m78
                  · exact g_not hS (wanted_no rfl rfl rfl eg (by decide)) rfl
                  · exact g_val (.int .i64 y) hS (wanted_yes rfl rfl rfl eg) (op_move rfl e10) rfl
                · replace eg := eg.trans (if_neg (by decide))
                  exact g_not hS (wanted_un rfl rfl rfl eg) rfl
              · go_light; intro listed a' w' hs hS hun hdep
                have eg : a'.eval (.tmp 79) = (if cv = false then .bool m78 else undef) := hs.eval 25 _ 79 rfl (hdep ⟨25, .guard⟩ (by simp) rfl) rfl
                have e84 : a'.eval (.tmp 84) = (if cv = false then (if m78 = true then .int .i64 tt else undef) else undef) := hs.eval 30 _ 84 rfl (hdep ⟨30, .data⟩ (by simp) rfl) rfl
                have e85 : a'.eval (.tmp 85) = (if cv = false then (if m78 = true then .int .i64 y else undef) else undef) := hs.eval 31 _ 85 rfl (hdep ⟨31, .data⟩ (by simp) rfl) rfl
                cases cv
                · replace eg := eg.trans (if_pos rfl)
                  cases m78
                  · exact g_not hS (wanted_no rfl rfl rfl eg (by decide)) rfl
                  · replace e84 := e84.trans (if_pos rfl)
                    replace e84 := e84.trans (if_pos rfl)
                    replace e85 := e85.trans (if_pos rfl)
                    replace e85 := e85.trans (if_pos rfl)
                    refine g_val (.bool m86) hS (wanted_yes rfl rfl rfl eg) ?_ rfl
                    rw [← hm86.out]
                    have hcn := BigFrame.eval_const a'; have hfn := BigFrame.eval_func a'; clear hs hdep; generalize a'.eval = ev at *; go_simp; try rfl
                · replace eg := eg.trans (if_neg (by decide))
                  exact g_not hS (wanted_un rfl rfl rfl eg) rfl
              · go_light; intro listed a' w' hs hS hun hdep
                have eg : a'.eval (.tmp 55) = (.bool cv) := hs.eval 1 _ 55 rfl (hdep ⟨1, .guard⟩ (by simp) rfl) rfl
                have e79 : a'.eval (.tmp 79) = (if cv = false then .bool m78 else undef) := hs.eval 25 _ 79 rfl (hdep ⟨25, .data⟩ (by simp) rfl) rfl
                have e86 : a'.eval (.tmp 86) = (if cv = false then (if m78 = true then .bool m86 else undef) else undef) := hs.eval 32 _ 86 rfl (hdep ⟨32, .data⟩ (by simp) rfl) rfl
                cases cv
                · replace e79 := e79.trans (if_pos rfl)
                  replace e86 := e86.trans (if_pos rfl)
                  refine g_val (.bool m87) hS (wanted_yes rfl rfl rfl eg) ?_ rfl
                  cases m78
                  · replace e86 := e86.trans (if_neg (by decide))
                    exact (op_pick_f rfl e79 (BigFrame.eval_const a' _)).trans (by rw [← hm87.out]; first | rfl | simp)
                  · replace e86 := e86.trans (if_pos rfl)
                    exact (op_pick_t rfl e79 e86).trans (by rw [← hm87.out]; first | rfl | simp)
                · exact g_not hS (wanted_no rfl rfl rfl eg (by decide)) rfl
              · go_light; intro listed a' w' hs hS hun hdep
                have e55 : a'.eval (.tmp 55) = (.bool cv) := hs.eval 1 _ 55 rfl (hdep ⟨1, .data⟩ (by simp) rfl) rfl
                have e87 : a'.eval (.tmp 87) = (if cv = false then .bool m87 else undef) := hs.eval 33 _ 87 rfl (hdep ⟨33, .data⟩ (by simp) rfl) rfl
                refine g_val (.bool m88) hS rfl ?_ rfl
                cases cv
                · replace e87 := e87.trans (if_pos rfl)
                  exact (op_pick_f rfl e55 e87).trans (by rw [← hm88.out]; first | rfl | simp)
                · replace e87 := e87.trans (if_neg (by decide))
                  exact (op_pick_t rfl e55 (BigFrame.eval_const a' _)).trans (by rw [← hm88.out]; first | rfl | simp)
              · intro vs w3 hlen hV hS
                obtain ⟨v0, v1, v2, v3, v4, v5, v6, v7, v8, v9, v10, v11, v12, v13, v14, v15, v16, v17, v18, v19, v20, v21, v22, v23, v24, v25, v26, v27, v28, v29, v30, v31, v32, v33, v34, rfl⟩ := vs_35 vs (hlen.trans rfl)
                have q0 : v0 = .bool cv := hV 0 _ rfl
                have q1 : v1 = .bool cv := hV 1 _ rfl
                have q34 : v34 = .bool m88 := hV 34 _ rfl
                have hbel : Below wr.heap.size wr w3 := hS
                subst q0 q1 q34
                clear hV hS hlen
                simp only [lays, Act.put, List.setIfInBounds_toArray, List.set_cons_zero, List.set_cons_succ, List.drop_succ_cons, List.drop_zero, List.take_succ_cons, List.take_zero]
                have hst : m88 = f x y (ii + 1) := by
                  rw [HStep.out, ← HC.out, ← hm88.out, ← hm87.out, ← hm86.out, ← hm78.out, ← hm77.out, ← hm76.out, ← hm68.out, ← hm61.out]
                  rfl
                have HC3 := Lib.hid hst
                have hb3 := hb.trans (hbel.mono hb.size)
                have hbw3 := hbw.trans (hbel.mono hbw.size)
                clear hst hbel hb hbw LR HC HStep hm61 hm68 hm76 hm77 hm78 hm86 hm87 hm88 C61
                go_wp2
                go_roundw
                case rel => exact ⟨ii + 1, m88, by omega, by go_num, rfl, HC3, hb3, hbw3⟩
                case measure => simp [intOf]; omega
            · obtain rfl : ii = l.length := by omega
              have hge : ¬ (l.length : Int) < (l.length : Int) := by omega
              have hM1 := HM.out.below hb
              have r0 := hM1.rowAt x hxn
              rw [if_pos hxn] at r0
              have r1 := hM1.cellAt x y hxn hyn
              simp only [← HC.out] at r1
              have hcc : (cv == cv) = true := by cases cv <;> rfl
              clear hM1 HC
              cases cv
              · go_wp2
                go_roundw
                case rel => exact ⟨y + 1, by omega, by go_num, hb, hbw⟩
                case measure => simp [intOf]; omega
              · go_wp2
                go_roundw
                case rel => exact ⟨y + 1, by omega, by go_num, hb, hbw⟩
                case measure => simp [intOf]; omega
        · obtain rfl : y = n := by omega
          have hge : ¬ (y : Int) < (y : Int) := by omega
          go_wp2
          go_roundw
          case rel => exact ⟨x + 1, by omega, by go_num, hb, hbw⟩
          case measure => simp [intOf]; omega
    · obtain rfl : x = n := by omega
      have hge : ¬ (x : Int) < (x : Int) := by omega
      have LA := Lib.hid (LA1.out.below hb)
      have HM2 := Lib.hid (HM.out.below hb)
      have f0 := LA.out.at0 0 0 _ rfl (Nat.zero_add _)
      have f1 := LA.out.at0 1 1 _ rfl (Nat.zero_add _)
      have f2 := LA.out.at0 2 2 _ rfl (Nat.zero_add _)
      have f3 := LA.out.at0 3 3 _ rfl (Nat.zero_add _)
      have f4 := LA.out.at0 4 4 _ rfl (Nat.zero_add _)
      by_cases hq0 : ql < 0
      · clear HTO HRI HRT
        go_wp2_with fail
        refine (guard_awake _).mono ?_
        rintro e wz ⟨rfl, hbz⟩
        have hbwz := hbw.trans (hbz.mono hbw.size)
        go_wp2
        go_ret
        exact ⟨rfl, hbwz⟩
      · by_cases hqx : (x : Int) ≤ ql
        · clear HTO HRI HRT
          go_wp2_with fail
          refine (guard_awake _).mono ?_
          rintro e wz ⟨rfl, hbz⟩
          have hbwz := hbw.trans (hbz.mono hbw.size)
          go_wp2
          go_ret
          exact ⟨rfl, hbwz⟩
        · obtain ⟨qn, rfl⟩ := Int.eq_ofNat_of_zero_le (show 0 ≤ ql by omega)
          have hqn : qn < x := by omega
          have hqn2 : (qn : Int) < (x : Int) := by omega
          have HRT2 := Lib.hid (HRT.out qn rfl hqn)
          clear HRT
          go_wp2_with fail
          refine (HRI.out _ hbw).mono ?_
          rintro e w3 ⟨rfl, hb3⟩
          have hbw3 := hbw.trans (hb3.mono hbw.size)
          have LA3 := Lib.hid (LA.out.below hb3)
          have HM3 := Lib.hid (HM2.out.below hb3)
          clear f0 f1 f2 f3 f4 hb3 LA HM2 hbw HRI
          cases al
          · clear HTO HRT2
            go_wp2_with fail
            refine (guard_awake _).mono ?_
            rintro e wz ⟨rfl, hbz⟩
            have hbwz := hbw3.trans (hbz.mono hbw3.size)
            go_wp2
            go_ret
            exact ⟨rfl, hbwz⟩
          · obtain ⟨tn, rfl, htn, hft⟩ := HRT2.out rfl
            have htn2 : (tn : Int) < (x : Int) := by omega
            clear HRT2
            have f0 := LA3.out.at0 0 0 _ rfl (Nat.zero_add _)
            have f1 := LA3.out.at0 1 1 _ rfl (Nat.zero_add _)
            have f2 := LA3.out.at0 2 2 _ rfl (Nat.zero_add _)
            have f3 := LA3.out.at0 3 3 _ rfl (Nat.zero_add _)
            have f4 := LA3.out.at0 4 4 _ rfl (Nat.zero_add _)
            go_wp2_with fail
            refine (HTO.out _ hbw3).mono ?_
            rintro e w4 ⟨rfl, hb4⟩
            have hbw4 := hbw3.trans (hb4.mono hbw3.size)
            have LA4 := Lib.hid (LA3.out.below hb4)
            have hM4 := HM3.out.below hb4
            have r0 := hM4.rowAt qn hqn
            rw [if_pos hqn] at r0
            have r1 := hM4.cellAt qn tn hqn htn
            simp only [hft] at r1
            clear f0 f1 f2 f3 f4 hb4 LA3 HM3 hbw3 hM4
            have f0 := LA4.out.at0 0 0 _ rfl (Nat.zero_add _)
            have f1 := LA4.out.at0 1 1 _ rfl (Nat.zero_add _)
            have f2 := LA4.out.at0 2 2 _ rfl (Nat.zero_add _)
            have f3 := LA4.out.at0 3 3 _ rfl (Nat.zero_add _)
            have f4 := LA4.out.at0 4 4 _ rfl (Nat.zero_add _)
            go_wp2_with fail
            refine (guard_awake _).mono ?_
            rintro e wz ⟨rfl, hbz⟩
            have hbwz := hbw4.trans (hbz.mono hbw4.size)
            go_wp2
            go_ret
            exact ⟨rfl, hbwz⟩

#print axioms greach_law
end Go.Proofs.Ytagfcfkkjllfpaa
