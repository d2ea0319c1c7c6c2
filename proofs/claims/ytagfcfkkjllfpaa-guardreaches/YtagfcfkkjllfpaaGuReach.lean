/- Which labels may become which. -/
import Derived.Test.YtagfcfkkjllfpaaGuMat
namespace Go.Proofs.Ytagfcfkkjllfpaa
open Go.RowKit
set_option maxRecDepth 100000
set_option linter.unusedVariables false
open Gd

-- REGIONS
theorem vs_7 (vs : List Value) (h : vs.length = 7) : ∃ v0 v1 v2 v3 v4 v5 v6, vs = [v0, v1, v2, v3, v4, v5, v6] := by
  obtain ⟨v0, r0, rfl, h0⟩ := vs_cons vs h
  obtain ⟨v1, r1, rfl, h1⟩ := vs_cons r0 h0
  obtain ⟨v2, r2, rfl, h2⟩ := vs_cons r1 h1
  obtain ⟨v3, r3, rfl, h3⟩ := vs_cons r2 h2
  obtain ⟨v4, r4, rfl, h4⟩ := vs_cons r3 h3
  obtain ⟨v5, r5, rfl, h5⟩ := vs_cons r4 h4
  obtain ⟨v6, r6, rfl, h6⟩ := vs_cons r5 h5
  obtain rfl := List.eq_nil_of_length_eq_zero h6
  exact ⟨v0, v1, v2, v3, v4, v5, v6, rfl⟩

namespace Gd
/-- So many labels, at most 16. -/
def nn (m : Int) : Nat := if m < 0 then 0 else if 16 < m then 16 else m.toNat
theorem nn_le (m : Int) : nn m ≤ 16 := by unfold nn; split <;> (try split) <;> omega
/-- Which label may become which, by the first k rules. -/
def rF (l : List Gu) (n x y : Nat) : Nat → Bool
  | 0 => x == y
  | k + 1 => rF l n x y k || ((gu l k).ok n && U.fits (gu l k).l x && ((gu l k).to == (y : Int)))
theorem rF_no {l : List Gu} {n k : Nat} (h : (gu l k).ok n = false) (x y : Nat) : rF l n x y (k + 1) = rF l n x y k := by simp [rF, h]
end Gd
theorem Mat.cong {base g n k : Nat} {w : World} {rb : Nat → Nat} {f f' : Nat → Nat → Bool} (h : Mat base w g n k rb f) (he : ∀ x y, f x y = f' x y) : Mat base w g n k rb f' := by
  have : f = f' := funext fun x => funext fun y => he x y
  exact this ▸ h

set_option maxHeartbeats 16000000 in
theorem Reach_any (ao : Option Addr) (cap : Nat) (l : List Gu) (lab : Int) (w : World) (h : GRow w ao l) (hf : GFine l) (hl : l.length ≤ 1000000) :
    Calls Try.prog 29 #[.slice ao l.length cap, .int .i64 lab] w fun e w' => ∃ g, e = .returned (.slice (some ⟨g, 0, none⟩) (nn lab) (nn lab)) ∧ (∃ rb, Mat w.heap.size w' g (nn lab) (nn lab) rb (fun x y => rF l (nn lab) x y l.length)) ∧ Below w.heap.size w w' := by
  have HR := Lib.hid h
  have HF := Lib.hid hf
  clear h hf
  have Hnn : Hid (nn lab = (if lab < 0 then 0 else if 16 < lab then 16 else lab.toNat)) := Lib.hid rfl
  have hn := nn_le lab
  have HI := Lib.hid (itself_any (nn lab) w hn)
  generalize nn lab = n at *
  go_enter Try.func29, Try.ntmps29
  go_upto_region 1 with fail
  go_cut [5] (fun v wr => ∃ g rb, v = .slice (some ⟨g, 0, none⟩) n n ∧ Mat w.heap.size wr g n n rb (fun x y => x == y) ∧ Below w.heap.size w wr)
  case first =>
    by_cases h0 : lab < 0
    · have e : n = 0 := by rw [Hnn.out, if_pos h0]
      subst e
      go_wp2_with fail
      refine HI.out.mono ?_
      rintro e w1 ⟨rfl, ⟨rb, hM⟩, hb1⟩
      go_wp2_with fail
      go_meet
      exact ⟨_, rb, rfl, hM, hb1⟩
    · by_cases h1 : 16 < lab
      · have e : n = 16 := by rw [Hnn.out, if_neg h0, if_pos h1]
        subst e
        go_wp2_with fail
        refine HI.out.mono ?_
        rintro e w1 ⟨rfl, ⟨rb, hM⟩, hb1⟩
        go_wp2_with fail
        go_meet
        exact ⟨_, rb, rfl, hM, hb1⟩
      · have e : lab = (n : Int) := by have := Hnn.out; rw [if_neg h0, if_neg h1] at this; omega
        subst e
        clear h0
        by_cases h3 : n = 0
        · subst h3
          go_wp2_with fail
          refine HI.out.mono ?_
          rintro e w1 ⟨rfl, ⟨rb, hM⟩, hb1⟩
          go_wp2_with fail
          go_meet
          exact ⟨_, rb, rfl, hM, hb1⟩
        · have h4 : (0 : Int) < (n : Int) := by omega
          have h5 : ¬ (16 : Int) < (n : Int) := by omega
          clear h1 h3
          go_wp2_with fail
          refine HI.out.mono ?_
          rintro e w1 ⟨rfl, ⟨rb, hM⟩, hb1⟩
          go_wp2_with fail
          go_meet
          exact ⟨_, rb, rfl, hM, hb1⟩
  clear HI Hnn
  obtain ⟨g, rb0, rfl, hM0, hb0⟩ := hcut
  have HM0 := Lib.hid hM0
  clear hM0
  go_wp2
  go_loopw [15] (fun i wr => ∃ (k : Nat) (rb : Nat → Nat), k ≤ l.length ∧ i = .int .i64 k ∧ Mat w.heap.size wr g n n rb (fun x y => rF l n x y k) ∧ Below w.heap.size w wr) (fun i _ => l.length - (intOf i).toNat)
  case atStart => exact ⟨0, rb0, Nat.zero_le _, rfl, HM0.out.cong (fun x y => rfl), hb0⟩
  case round =>
    clear HM0 hb0
    obtain ⟨k, rb, hk, rfl, hM, hb⟩ := hrel
    by_cases hkl : k < l.length
    · have hkl2 : (k : Int) < (l.length : Int) := by omega
      obtain ⟨b, off, rfl, hbl, hL⟩ := (HR.out.below hb).at k _ (gu_get l k hkl)
      have hfin := HF.out _ (gu_mem l k hkl)
      have HOK := Lib.hid (fun w' => gok_any n (gu l k) w' hfin.1 hfin.2)
      have HNo := Lib.hid (fun h : (gu l k).ok n = false => Gd.rF_no h)
      have HYes := Lib.hid (fun (h : (gu l k).ok n = true) (x y : Nat) => (show rF l n x y (k + 1) = (rF l n x y k || (U.fits (gu l k).l x && ((gu l k).to == (y : Int)))) by simp [rF, h]))
      have HTo := Lib.hid (fun h : (gu l k).ok n = true => (show 0 ≤ (gu l k).to ∧ (gu l k).to < (n : Int) by unfold Gu.ok at h; simp only [Bool.and_eq_true, decide_eq_true_eq] at h; exact ⟨h.1.2, h.2⟩))
      generalize gu l k = r at *
      generalize hokq : r.ok n = q at *
      clear hokq hfin
      have c0 := hL.at0 0 _ _ rfl rfl
      have c1 := hL.at0 1 _ _ rfl rfl
      have c2 := hL.at0 2 _ _ rfl rfl
      have c3 := hL.at0 3 _ _ rfl rfl
      have c4 := hL.at0 4 _ _ rfl rfl
      have c5 := hL.at0 5 _ _ rfl rfl
      have c6 := hL.at0 6 _ _ rfl rfl
      have c7 := hL.at0 7 _ _ rfl rfl
      obtain ⟨i, lb, sa, sb, da, db, p, tt⟩ := r
      simp only [Gu.v] at HOK
      simp only [] at HYes HTo
      simp only [Nat.add_zero] at c0
      have HM := Lib.hid hM
      clear hL hM
      have hbs := hb.size
      go_wp2_with fail
      refine (HOK.out _).mono ?_
      rintro e w2 ⟨rfl, hb2⟩
      have hk1 : Below wr.heap.size wr (wr.alloc (.cells #[.int .i64 i, .int .i64 lb, .int .u32 sa, .int .i64 sb, .int .u32 da, .int .i64 db, .int .i64 p, .int .i64 tt] 50)) := (Below.refl _ wr).alloc (Nat.le_refl _) _
      have hk2 := hk1.trans (hb2.mono hk1.size)
      have LS0 := Lib.hid ((Lies.new wr [.int .i64 i, .int .i64 lb, .int .u32 sa, .int .i64 sb, .int .u32 da, .int .i64 db, .int .i64 p, .int .i64 tt] 50).below hb2)
      have HM2 := Lib.hid (HM.out.below hk2)
      have hb3 := hb.trans (hk2.mono hbs)
      have hgh : g < wr.heap.size := heap_lt HM.out.top
      have hrh : ∀ i, i < n → rb i < wr.heap.size := fun i hi => heap_lt (HM.out.row i hi)
      clear c0 c1 c2 c3 c4 c5 c6 c7 hb2 hk1 hk2 HOK HM hb
      generalize hh7 : wr.heap.size = h7 at *
      cases q
      · have HN := Lib.hid (HNo.out rfl)
        clear HNo HYes HTo
        go_wp2
        go_roundw
        case rel => exact ⟨k + 1, rb, by omega, by go_num, HM2.out.cong (fun x y => (HN.out x y).symm), hb3⟩
        case measure => simp [intOf]; omega
      · have HY := Lib.hid (HYes.out rfl)
        obtain ⟨ht0, ht1⟩ := HTo.out rfl
        obtain ⟨tn, rfl⟩ := Int.eq_ofNat_of_zero_le ht0
        have htn : tn < n := by omega
        have htn2 : (tn : Int) < (n : Int) := ht1
        clear HNo HYes HTo ht0 ht1
        go_wp2
        generalize wr = wo at *
        go_loopw [26] (fun ix wr => ∃ (j : Nat), j ≤ n ∧ ix = .int .i64 j ∧ Mat w.heap.size wr g n n rb (fun x y => if x < j then rF l n x y (k + 1) else rF l n x y k) ∧ Lies wr h7 0 [.int .i64 i, .int .i64 lb, .int .u32 sa, .int .i64 sb, .int .u32 da, .int .i64 db, .int .i64 p, .int .i64 tn] ∧ Below w.heap.size w wr) (fun i _ => n - (intOf i).toNat)
        case atStart => exact ⟨0, Nat.zero_le _, rfl, HM2.out.cong (fun x y => by simp), LS0.out, hb3⟩
        case round =>
          clear hb3 HM2 LS0
          obtain ⟨j, hj, rfl, hM, hL, hb⟩ := hrel
          by_cases hjn : j < n
          · have hjn2 : (j : Int) < (n : Int) := by omega
            have hbs2 := hb.size
            have HFi := Lib.hid (fun w' => gfits_any lb j w')
            have HYj := Lib.hid (fun y => HY.out j y)
            generalize hfq : U.fits lb j = fq at *
            clear hfq
            have d1 := hL.at0 1 1 _ rfl (Nat.zero_add _)
            go_wp2_with fail
            refine (HFi.out _).mono ?_
            rintro e w4 ⟨rfl, rfl⟩
            cases fq
            · have hM2 : Hid (Mat w.heap.size wr g n n rb (fun x y => if x < j + 1 then rF l n x y (k + 1) else rF l n x y k)) := Lib.hid (hM.cong fun x y => by
                by_cases e : x = j
                · subst e
                  have := HYj.out y
                  simp only [Bool.false_and, Bool.or_false] at this
                  simp [this]
                · by_cases h1 : x < j
                  · have h2 : x < j + 1 := by omega
                    simp [h1, h2]
                  · have h2 : ¬ x < j + 1 := by omega
                    simp [h1, h2])
              have HL := Lib.hid hL
              clear hM hL
              go_wp2
              go_roundw
              case rel => exact ⟨j + 1, by omega, by go_num, hM2.out, HL.out, hb⟩
              case measure => simp [intOf]; omega
            · have LM := Lib.hid (hM.rowLies j hjn hjn)
              have LS := Lib.hid hL
              have HMj := Lib.hid hM
              clear hM hL d1
              go_upto_region 10 with fail
              refine region_gen_tail 7 (VG wr.heap.size [.val (.slice (some ⟨g, 0, none⟩) n n), .val (.int .i64 j), .val (.pointer (some ⟨g, 0 + j * 1, none⟩)), .val (.slice (some ⟨(rb j), 0, none⟩) n n), .val (.pointer (some ⟨h7, 7, none⟩)), .val (.int .i64 tn), .val (.pointer (some ⟨(rb j), 0 + tn * 1, none⟩))]) (BS wr) (by kernel_rfl) (by kernel_rfl) (by kernel_rfl) (Below.refl _ _).drew ⟨?_, ?_, ?_, ?_, ?_, ?_, ?_, trivial⟩ ?_
              · go_light; intro listed a' w' hs hS hun hdep
                have e5 : a'.eval (.tmp 5) = .slice (some ⟨g, 0, none⟩) n n := (hs.out 5 (by kernel_rfl)).trans (rfl)
                exact g_val (.slice (some ⟨g, 0, none⟩) n n) hS rfl (op_move rfl e5) rfl
              · go_light; intro listed a' w' hs hS hun hdep
                have e8 : a'.eval (.tmp 8) = .int .i64 j := (hs.out 8 (by kernel_rfl)).trans (rfl)
                exact g_val (.int .i64 j) hS rfl (op_move rfl e8) rfl
              · go_light; intro listed a' w' hs hS hun hdep
                have e33 : a'.eval (.tmp 33) = (.slice (some ⟨g, 0, none⟩) n n) := hs.eval 0 _ 33 rfl (hdep ⟨0, .data⟩ (by simp) rfl) rfl
                have e34 : a'.eval (.tmp 34) = (.int .i64 j) := hs.eval 1 _ 34 rfl (hdep ⟨1, .data⟩ (by simp) rfl) rfl
                exact g_val (.pointer (some ⟨g, 0 + j * 1, none⟩)) hS rfl (op_ixa rfl e33 e34 Try.underlying55 (by kernel_rfl) hjn) rfl
              · go_light; intro listed a' w' hs hS hun hdep
                have e35 : a'.eval (.tmp 35) = (.pointer (some ⟨g, 0 + j * 1, none⟩)) := hs.eval 2 _ 35 rfl (hdep ⟨2, .data⟩ (by simp) rfl) rfl
                exact g_val (.slice (some ⟨(rb j), 0, none⟩) n n) hS rfl (op_ld1 (.slice (some ⟨(rb j), 0, none⟩) n n) rfl e35 (LM.out.below hS) 0 (by first | rfl | simp) rfl Try.underlying57 rfl) rfl
              · go_light; intro listed a' w' hs hS hun hdep
                have e7 : a'.eval (.tmp 7) = .pointer (some ⟨h7, 0, none⟩) := (hs.out 7 (by kernel_rfl)).trans (rfl)
                refine g_val (.pointer (some ⟨h7, 7, none⟩)) hS rfl ?_ rfl
                have hcn := BigFrame.eval_const a'; have hfn := BigFrame.eval_func a'; clear hs hdep; generalize a'.eval = ev at *; go_simp
              · go_light; intro listed a' w' hs hS hun hdep
                have e37 : a'.eval (.tmp 37) = (.pointer (some ⟨h7, 7, none⟩)) := hs.eval 4 _ 37 rfl (hdep ⟨4, .data⟩ (by simp) rfl) rfl
                exact g_val (.int .i64 tn) hS rfl (op_ld1 (.int .i64 tn) rfl e37 (LS.out.below hS) 7 (by first | rfl | simp) rfl Try.underlying3 rfl) rfl
              · go_light; intro listed a' w' hs hS hun hdep
                have e36 : a'.eval (.tmp 36) = (.slice (some ⟨(rb j), 0, none⟩) n n) := hs.eval 3 _ 36 rfl (hdep ⟨3, .data⟩ (by simp) rfl) rfl
                have e38 : a'.eval (.tmp 38) = (.int .i64 tn) := hs.eval 5 _ 38 rfl (hdep ⟨5, .data⟩ (by simp) rfl) rfl
                exact g_val (.pointer (some ⟨(rb j), 0 + tn * 1, none⟩)) hS rfl (op_ixa rfl e36 e38 Try.underlying57 (by kernel_rfl) htn) rfl
              · intro vs w5 hlen hV hS
                obtain ⟨v0, v1, v2, v3, v4, v5, v6, rfl⟩ := vs_7 vs (hlen.trans rfl)
                have q0 : v0 = .slice (some ⟨g, 0, none⟩) n n := hV 0 _ rfl
                have q1 : v1 = .int .i64 j := hV 1 _ rfl
                have q2 : v2 = .pointer (some ⟨g, 0 + j * 1, none⟩) := hV 2 _ rfl
                have q3 : v3 = .slice (some ⟨(rb j), 0, none⟩) n n := hV 3 _ rfl
                have q4 : v4 = .pointer (some ⟨h7, 7, none⟩) := hV 4 _ rfl
                have q5 : v5 = .int .i64 tn := hV 5 _ rfl
                have q6 : v6 = .pointer (some ⟨(rb j), 0 + tn * 1, none⟩) := hV 6 _ rfl
                have hbel : Below wr.heap.size wr w5 := hS
                subst q0 q1 q2 q3 q4 q5 q6
                clear hV hS hlen
                simp only [lays, Act.put, List.setIfInBounds_toArray, List.set_cons_zero, List.set_cons_succ, List.drop_succ_cons, List.drop_zero, List.take_succ_cons, List.take_zero]
                simp only [Nat.zero_add, Nat.mul_one]
                have hM5 := HMj.out.below hbel
                have k1 := hM5.cellAt j tn hjn htn
                have z1 := hM5.frozenRow j tn hjn
                have hb5 := hb.trans (hbel.mono hbs2)
                have hrb := hM5.gr j hjn
                have hge := hM5.ge
                have hb6 : Below w.heap.size w (w5.setCell ⟨rb j, tn, none⟩ (.bool true)) := hb5.setCell (p := ⟨rb j, tn, none⟩) (by show w.heap.size ≤ rb j; omega) _
                have hL6 : Hid (Lies (w5.setCell ⟨rb j, tn, none⟩ (.bool true)) h7 0 [.int .i64 i, .int .i64 lb, .int .u32 sa, .int .i64 sb, .int .u32 da, .int .i64 db, .int .i64 p, .int .i64 tn]) := Lib.hid ⟨by have := (LS.out.below hbel).lt; simpa [World.setCell] using this, fun q v hv => by
                  have := (LS.out.below hbel).at_ q v hv
                  have hne : h7 ≠ rb j := by have := hrh j hjn; omega
                  rw [← this]
                  simp only [World.cell?]
                  rw [heap_setCell_other _ _ _ _ (by show h7 ≠ rb j; exact hne)]⟩
                have hM6 : Hid (Mat w.heap.size (w5.setCell ⟨rb j, tn, none⟩ (.bool true)) g n n rb (fun x y => if x < j + 1 then rF l n x y (k + 1) else rF l n x y k)) := Lib.hid ((hM5.put j tn hjn true).cong fun x y => by
                  by_cases e : x = j
                  · subst e
                    have := HYj.out y
                    simp only [Bool.true_and] at this
                    by_cases e2 : y = tn
                    · subst e2
                      simp [this]
                    · have e3 : ((tn : Int) == (y : Int)) = false := by rw [beq_eq_false_iff_ne]; omega
                      simp [this, e2, e3]
                  · by_cases h1 : x < j
                    · have h2 : x < j + 1 := by omega
                      simp [h1, h2, e]
                    · have h2 : ¬ x < j + 1 := by omega
                      simp [h1, h2, e])
                clear hM5 hb5 LM LS HMj hbel hb
                go_wp2
                go_roundw
                case rel => exact ⟨j + 1, by omega, by go_num, hM6.out, hL6.out, hb6⟩
                case measure => simp [intOf]; omega
          · obtain rfl : j = n := by omega
            have hge : ¬ (j : Int) < (j : Int) := by omega
            have hM2 : Hid (Mat w.heap.size wr g j j rb (fun x y => rF l j x y (k + 1))) := Lib.hid ⟨hM.top, fun i hi => by
              rw [hM.row i hi]
              congr 2
              congr 1
              funext y
              simp [hi], hM.ge, hM.gr, hM.inj⟩
            clear hM hL
            go_wp2
            go_roundw
            case rel => exact ⟨k + 1, rb, by omega, by go_num, hM2.out, hb⟩
            case measure => simp [intOf]; omega
    · obtain rfl : k = l.length := by omega
      have hge : ¬ (l.length : Int) < (l.length : Int) := by omega
      have HM := Lib.hid hM
      clear hM
      go_wp2
      go_ret
      exact ⟨g, rfl, ⟨rb, HM.out⟩, hb⟩
#print axioms Reach_any
end Go.Proofs.Ytagfcfkkjllfpaa
