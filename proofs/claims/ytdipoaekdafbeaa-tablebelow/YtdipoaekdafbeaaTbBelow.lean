/- TableBelow, walked whole. -/
import Derived.Test.YtdipoaekdafbeaaTbBools
namespace Go.Proofs.Ytdipoaekdafbeaa
open Go.RowKit Go.Maps Go.ChangeMaps
set_option maxRecDepth 100000
set_option linter.unusedVariables false
open T

set_option maxHeartbeats 16000000 in
theorem below_all (a : Option Addr) (cap : Nat) (l : Labs) (n : Int) (w : World) (h : LRow w a l) (hok : ∀ p ∈ l, ok p) :
    Calls Try.prog 9 #[.slice a l.length cap, .int .i64 n] w fun e w' => e = .returned (.bool true) ∧ Below w.heap.size w w' := by
  have HR0 := Lib.hid h
  have Hok := Lib.hid hok
  clear h hok
  by_cases h40 : 40 < l.length
  · have h40' : (40 : Int) < (l.length : Int) := by omega
    go_enter Try.func9, Try.ntmps9
    go_wp2_with fail
    refine (tab_awake _).mono ?_
    rintro e w1 ⟨rfl, hb1⟩
    go_wp2
    go_ret
    exact ⟨rfl, hb1⟩
  have h40' : ¬ (40 : Int) < (l.length : Int) := by omega
  have hmk := run_make_row' (P := Try.prog) 64 4 (.bool false) 1 Try.underlying64 Try.info_bool rfl .i64 .i64 l.length (by omega) (by omega)
  simp only [bools_made] at hmk
  go_enter Try.func9, Try.ntmps9
  go_wp2_with fail
  refine (tab_awake _).mono ?_
  rintro e w1 ⟨rfl, hb1⟩
  have HR1 := Lib.hid (HR0.out.below hb1)
  clear HR0
  go_wp2_with fail
  rcases chk_cases l with ⟨hup, _⟩ | ⟨k, hk, hup, he, _⟩
  rotate_left
  · refine (New_bad a cap l w1 HR1.out (by omega) Hok.out k hk hup he).mono ?_
    rintro e w2 ⟨rfl, hb2⟩
    have hbw2 := hb1.trans (hb2.mono hb1.size)
    have hne : (addE (l.take k) (lab l k) != 0) = true := by simpa using he
    generalize addE (l.take k) (lab l k) = E at *
    clear he hup hmk
    go_wp2
    go_ret
    exact ⟨rfl, hbw2⟩
  have hnd : l.Nodup := by
    have := upTo_nodup l.length hup (Nat.le_refl _)
    rwa [List.take_length] at this
  refine (New_good a cap l w1 HR1.out (by omega) Hok.out hup).mono ?_
  rintro e w2 ⟨g, rfl, htab, hb2⟩
  obtain ⟨ao, ct, mm, hT⟩ := htab.read
  have HT0 := Lib.hid hT
  have HR2 := Lib.hid (HR1.out.below hb2)
  have hbw2 := hb1.trans (hb2.mono hb1.size)
  have Hnd := Lib.hid hnd
  clear hT htab hb2 HR1 hup hb1 hnd
  by_cases h0 : n < 0
  · clear hmk
    go_wp2
    go_ret
    exact ⟨rfl, hbw2⟩
  by_cases h1 : (l.length : Int) ≤ n
  · clear hmk
    go_wp2
    go_ret
    exact ⟨rfl, hbw2⟩
  obtain ⟨m, rfl⟩ : ∃ m : Nat, n = m := ⟨n.toNat, by omega⟩
  have hm : m < l.length := by omega
  have hBl : ∀ j : Nat, j < l.length → belowL l j = which (belowP (lab l j)) l := fun j hj => by unfold belowL; rw [if_pos (by omega)]; rfl
  have HBl := Lib.hid hBl
  have HBe := Lib.hid (fun (j : Nat) (hj : j < l.length) w' h => by
    have := TBelow_any g mm ct l ao j w' h (by omega) Hok.out
    rw [hBl j hj] at this
    exact this)
  clear hBl
  have hm' : (m : Int) < (l.length : Int) := by omega
  have hm0 : (0 : Int) ≤ (m : Int) := by omega
  go_wp2_with fail
  refine (HBe.out m hm w2 HT0.out).mono ?_
  rintro e w3 ⟨ab, cb, rfl, hr3, hb3⟩
  have HT3 := Lib.hid (HT0.out.below hb3)
  have HR3 := Lib.hid (HR2.out.below hb3)
  have HI3 := Lib.hid hr3
  have hbw3 := hbw2.trans (hb3.mono hbw2.size)
  have Hat := Lib.hid (fun i => which_at_lt (belowP (lab l m)) l i)
  have Hmem := Lib.hid (fun z => mem_which (belowP (lab l m)) l z)
  have hrl : (which (belowP (lab l m)) l).length ≤ l.length := whichTo_len _ l l.length
  generalize hrr : which (belowP (lab l m)) l = r at *
  have Hrr := Lib.hid hrr
  clear hr3 hb3 HT0 HR2 hbw2 hrr
  have hB0 : (w3.alloc (.cells (bools (fun _ => false) l.length) 4)).heap[w3.heap.size]? = some (.cells (bools (fun j => decide ((j : Int) ∈ r.take 0)) l.length) 4 (0, 0)) := by
    rw [show (fun j : Nat => decide ((j : Int) ∈ r.take 0)) = fun _ => false from funext fun j => by simp]
    exact heap_alloc_new w3 _
  have HB0 := Lib.hid hB0
  clear hB0
  go_wp2
  clear hmk
  go_loopw [10] (fun i wr => ∃ k : Nat, k ≤ r.length ∧ i = .int .i64 k ∧ wr.heap[w3.heap.size]? = some (.cells (bools (fun j => decide ((j : Int) ∈ r.take k)) l.length) 4 (0, 0)) ∧ Below w3.heap.size w3 wr) (fun i _ => r.length - (intOf i).toNat)
  case atStart => exact ⟨0, Nat.zero_le _, rfl, HB0.out, (Below.refl _ _).alloc (Nat.le_refl _) _⟩
  case round =>
    obtain ⟨k, hk, rfl, hbo, hb⟩ := hrel
    by_cases hlt : k < r.length
    · obtain ⟨b, off, rfl, _, c0⟩ := HI3.out.then hb k hlt
      obtain ⟨j, hj, ej, _⟩ := Hat.out k hlt
      rw [ej] at c0
      have htk : Hid ((bools (fun i => decide ((i : Int) ∈ r.take k)) l.length).setIfInBounds j (.bool true) = bools (fun i => decide ((i : Int) ∈ r.take (k + 1))) l.length) := Lib.hid (by
        rw [bools_set]
        congr 1
        funext i
        rw [C.getD_take r k hlt, ej]
        by_cases e : i = j
        · subst e; simp
        · have e' : ¬ (i : Int) = (j : Int) := by omega
          simp [e, e'])
      have hce : wr.cell? ⟨w3.heap.size, j, none⟩ = some (.bool (decide ((j : Int) ∈ r.take k))) := (cell_of_row wr _ j _ _ (0, 0) hbo).trans (bools_get _ _ j hj)
      have hfz : wr.frozen? ⟨w3.heap.size, j, none⟩ = false := frozen_of_row wr _ j _ _ hbo
      have Hset := Lib.hid (heap_setCell_same wr w3.heap.size j _ _ (.bool true) hbo)
      have hji : (j : Int) < (l.length : Int) := by omega
      have hki : (k : Int) < (r.length : Int) := by omega
      clear hbo ej
      generalize (decide ((j : Int) ∈ r.take k)) = qq at *
      go_wp2
      go_roundw
      case rel => exact ⟨k + 1, by omega, by go_num, by rw [← htk.out]; exact Hset.out, hb.setCell (Nat.le_refl _) _⟩
      case measure => simp [intOf]; omega
    · obtain rfl : k = r.length := by omega
      rw [List.take_length] at hbo
      have hki : ¬ (r.length : Int) < (r.length : Int) := by omega
      have HBo := Lib.hid hbo
      have HT := Lib.hid (HT3.out.below hb)
      have HR := Lib.hid (HR3.out.below hb)
      have HI0 := Lib.hid (HI3.out.below hb)
      have hbw := hbw3.trans (hb.mono hbw3.size)
      clear hbo HT3 HR3 HI3 hbw3 hb HB0
      generalize hB : w3.heap.size = B at *
      clear hB
      generalize wr = wC at *
      have HIn : Hid (∀ j : Nat, (j : Int) ∈ r → j < l.length → ∀ w', Below wC.heap.size wC w' → w'.cell? ⟨B, j, none⟩ = some (.bool true)) := Lib.hid (fun j hj hjl w' hS => by
        rw [cell_of_row w' B j _ _ (0, 0) ((hS.block B (heap_lt HBo.out)).trans HBo.out), bools_get _ _ j hjl, decide_eq_true hj])
      go_wp2
      go_loopw [11] (fun i wr => ∃ k : Nat, k ≤ r.length ∧ i = .int .i64 k ∧ Below wC.heap.size wC wr) (fun i _ => r.length - (intOf i).toNat)
      case atStart => exact ⟨0, Nat.zero_le _, rfl, Below.refl _ _⟩
      case round =>
        obtain ⟨k, hk, rfl, hb⟩ := hrel
        by_cases hlt : k < r.length
        · obtain ⟨b, off, rfl, _, c0⟩ := HI0.out.then hb k hlt
          obtain ⟨j, hj, ej, hpj⟩ := Hat.out k hlt
          rw [ej] at c0
          have Hpj := Lib.hid hpj
          have hki2 : (k : Int) < (r.length : Int) := by omega
          clear ej hpj
          go_wp2_with fail
          refine (HBe.out j hj wr (HT.out.below hb)).mono ?_
          rintro e w5 ⟨a5, c5, rfl, hr5, hb5⟩
          have hb5' := hb.trans (hb5.mono hb.size)
          have HI5 := Lib.hid hr5
          have Hin5 : Hid (∀ i, i < (which (belowP (lab l j)) l).length → ∃ j2 : Nat, j2 < l.length ∧ (which (belowP (lab l j)) l).getD i 0 = j2 ∧ ∀ w', Below wC.heap.size wC w' → w'.cell? ⟨B, j2, none⟩ = some (.bool true)) := Lib.hid (fun i hi => by
            obtain ⟨j2, h2, e2, hp2⟩ := which_at_lt (belowP (lab l j)) l i hi
            exact ⟨j2, h2, e2, HIn.out j2 ((Hmem.out _).2 ⟨j2, h2, rfl, dom_trans Hpj.out hp2⟩) h2⟩)
          have hrl5 : (which (belowP (lab l j)) l).length ≤ l.length := whichTo_len _ l l.length
          generalize which (belowP (lab l j)) l = r5 at *
          clear hr5 hb5 c0
          go_wp2
          go_loopw [13] (fun i wr => ∃ k : Nat, k ≤ r5.length ∧ i = .int .i64 k ∧ Below w5.heap.size w5 wr) (fun i _ => r5.length - (intOf i).toNat)
          case atStart => exact ⟨0, Nat.zero_le _, rfl, Below.refl _ _⟩
          case round =>
            obtain ⟨i, hi, rfl, hbi⟩ := hrel
            have hbw5 := hb5'.trans (hbi.mono hb5'.size)
            by_cases hi5 : i < r5.length
            · obtain ⟨b2, off2, rfl, _, d0⟩ := HI5.out.then hbi i hi5
              obtain ⟨j2, hj2, e2, hc2⟩ := Hin5.out i hi5
              rw [e2] at d0
              have hcell := hc2 _ hbw5
              have hj2i : (j2 : Int) < (l.length : Int) := by omega
              have hii : (i : Int) < (r5.length : Int) := by omega
              clear e2 hc2
              go_wp2
              go_roundw
              case rel => exact ⟨i + 1, by omega, by go_num, hbi⟩
              case measure => simp [intOf]; omega
            · obtain rfl : i = r5.length := by omega
              have hii : ¬ (r5.length : Int) < (r5.length : Int) := by omega
              go_wp2
              go_roundw
              case rel => exact ⟨k + 1, by omega, by go_num, hbw5⟩
              case measure => simp [intOf]; omega
        · obtain rfl : k = r.length := by omega
          obtain ⟨b, off, rfl, _, hr⟩ := labs_row (HR.out.below hb) m hm
          have HRm0 := Lib.hid (fun w' (hS : Below wr.heap.size wr w') => hr m hm w' hS)
          have HInM : Hid (∀ w', Below wr.heap.size wr w' → w'.cell? ⟨B, m, none⟩ = some (.bool true)) := Lib.hid (fun w' hS => HIn.out m ((Hmem.out _).2 ⟨m, hm, rfl, dom_refl _⟩) hm w' (hb.trans (hS.mono hb.size)))
          have hy2 : (lab l m).2 < 2 ^ 240 := (Hok.out _ (lab_mem l m hm)).2
          have HWi0 := Lib.hid (fun w' h => by
            have := TWithin_any g mm ct l ao (lab l m) (lab l m) w' h (by omega) Hok.out hy2 hy2
            rw [which_self l Hnd.out m hm] at this
            exact this)
          have HT := Lib.hid (HT.out.below hb)
          have HI : Hid (∀ a b ca cb w (ha : IRow w a [(m : Int)]) (hb : IRow w b [(m : Int)]), Calls Try.prog 28 #[.slice a ([(m : Int)]).length ca, .slice b ([(m : Int)]).length cb] w fun e w' => e = .returned (.bool true) ∧ Below w.heap.size w w') := Lib.hid (fun a b ca cb w ha hb => by
            have := Ints_any a b ca cb [(m : Int)] [(m : Int)] w ha hb (by simp) (by simp)
            rw [decide_eq_true rfl] at this
            exact this)
          have hbz0 := hbw.trans (hb.mono hbw.size)
          clear hr hy2 hbw Hat Hmem Hrr HIn HBe HBl HR HI0 HBo
          have HRm := HRm0
          have HWi := HWi0
          clear HRm0 HWi0
          generalize lab l m = y at *
          go_wp2
          refine region_gen (VG wr.heap.size [.val (.slice (some ⟨B, 0, none⟩) l.length l.length), .val (.int .i64 m), .val (.pointer (some ⟨B, m, none⟩)), .val (.bool true), .val (.bool true), .val (.pointer (some ⟨g, 0, none⟩)), .val (.slice (some ⟨b, off, none⟩) l.length cap), .val (.int .i64 m), .val (.pointer (some ⟨b, off + m * 31, none⟩)), .val (.agg (L.lv y.1 y.2)), .val (.slice (some ⟨b, off, none⟩) l.length cap), .val (.int .i64 m), .val (.pointer (some ⟨b, off + m * 31, none⟩)), .val (.agg (L.lv y.1 y.2)), .ints ([(m : Int)]), .val (.int .i64 m), .ints ([(m : Int)]), .val (.bool true), .val (.bool true), .val (.bool true)]) (BS wr) (by kernel_rfl) (by kernel_rfl) (Below.refl _ _).drew ⟨?_, ?_, ?_, ?_, ?_, ?_, ?_, ?_, ?_, ?_, ?_, ?_, ?_, ?_, ?_, ?_, ?_, ?_, ?_, ?_, trivial⟩ ?_
          · go_light; intro listed a' w' hs hS hun hdep
            have e9 : a'.eval (.tmp 9) = .slice (some ⟨B, 0, none⟩) l.length l.length := (hs.out 9 (by kernel_rfl)).trans (rfl)
            refine g_val (.slice (some ⟨B, 0, none⟩) l.length l.length) hS rfl ?_ rfl
            have hcn := BigFrame.eval_const a'; have hfn := BigFrame.eval_func a'; clear hs hdep; generalize a'.eval = ev at *; go_simp
          · go_light; intro listed a' w' hs hS hun hdep
            have e1 : a'.eval (.tmp 1) = .int .i64 m := (hs.out 1 (by kernel_rfl)).trans (rfl)
            refine g_val (.int .i64 m) hS rfl ?_ rfl
            have hcn := BigFrame.eval_const a'; have hfn := BigFrame.eval_func a'; clear hs hdep; generalize a'.eval = ev at *; go_simp
          · go_light; intro listed a' w' hs hS hun hdep
            have e84 : a'.eval (.tmp 84) = .slice (some ⟨B, 0, none⟩) l.length l.length := hs.eval 0 _ 84 rfl (hdep ⟨0, .data⟩ (by simp) rfl) rfl
            have e85 : a'.eval (.tmp 85) = .int .i64 m := hs.eval 1 _ 85 rfl (hdep ⟨1, .data⟩ (by simp) rfl) rfl
            refine g_val (.pointer (some ⟨B, m, none⟩)) hS rfl ?_ rfl
            have hcn := BigFrame.eval_const a'; have hfn := BigFrame.eval_func a'; clear hs hdep; generalize a'.eval = ev at *; go_simp
          · go_light; intro listed a' w' hs hS hun hdep
            have e86 : a'.eval (.tmp 86) = .pointer (some ⟨B, m, none⟩) := hs.eval 2 _ 86 rfl (hdep ⟨2, .data⟩ (by simp) rfl) rfl
            have kk := HInM.out w' hS
            refine g_val (.bool true) hS rfl ?_ rfl
            have hcn := BigFrame.eval_const a'; have hfn := BigFrame.eval_func a'; clear hs hdep; generalize a'.eval = ev at *; go_simp
          · go_light; intro listed a' w' hs hS hun hdep
            have e87 : a'.eval (.tmp 87) = .bool true := hs.eval 3 _ 87 rfl (hdep ⟨3, .data⟩ (by simp) rfl) rfl
            refine g_val (.bool true) hS rfl ?_ rfl
            have hcn := BigFrame.eval_const a'; have hfn := BigFrame.eval_func a'; clear hs hdep; generalize a'.eval = ev at *; go_simp
          · go_light; intro listed a' w' hs hS hun hdep
            have eg : a'.eval (.tmp 88) = .bool true := hs.eval 4 _ 88 rfl (hdep ⟨4, .guard⟩ (by simp) rfl) rfl
            have e5 : a'.eval (.tmp 5) = .pointer (some ⟨g, 0, none⟩) := (hs.out 5 (by kernel_rfl)).trans (rfl)
            refine g_val (.pointer (some ⟨g, 0, none⟩)) hS (wanted_yes rfl rfl rfl eg) ?_ rfl
            have hcn := BigFrame.eval_const a'; have hfn := BigFrame.eval_func a'; clear hs hdep; generalize a'.eval = ev at *; go_simp
          · go_light; intro listed a' w' hs hS hun hdep
            have eg : a'.eval (.tmp 88) = .bool true := hs.eval 4 _ 88 rfl (hdep ⟨4, .guard⟩ (by simp) rfl) rfl
            have e0 : a'.eval (.tmp 0) = .slice (some ⟨b, off, none⟩) l.length cap := (hs.out 0 (by kernel_rfl)).trans (rfl)
            refine g_val (.slice (some ⟨b, off, none⟩) l.length cap) hS (wanted_yes rfl rfl rfl eg) ?_ rfl
            have hcn := BigFrame.eval_const a'; have hfn := BigFrame.eval_func a'; clear hs hdep; generalize a'.eval = ev at *; go_simp
          · go_light; intro listed a' w' hs hS hun hdep
            have eg : a'.eval (.tmp 88) = .bool true := hs.eval 4 _ 88 rfl (hdep ⟨4, .guard⟩ (by simp) rfl) rfl
            have e1 : a'.eval (.tmp 1) = .int .i64 m := (hs.out 1 (by kernel_rfl)).trans (rfl)
            refine g_val (.int .i64 m) hS (wanted_yes rfl rfl rfl eg) ?_ rfl
            have hcn := BigFrame.eval_const a'; have hfn := BigFrame.eval_func a'; clear hs hdep; generalize a'.eval = ev at *; go_simp
          · go_light; intro listed a' w' hs hS hun hdep
            have eg : a'.eval (.tmp 88) = .bool true := hs.eval 4 _ 88 rfl (hdep ⟨4, .guard⟩ (by simp) rfl) rfl
            have e90 : a'.eval (.tmp 90) = .slice (some ⟨b, off, none⟩) l.length cap := hs.eval 6 _ 90 rfl (hdep ⟨6, .data⟩ (by simp) rfl) rfl
            have e91 : a'.eval (.tmp 91) = .int .i64 m := hs.eval 7 _ 91 rfl (hdep ⟨7, .data⟩ (by simp) rfl) rfl
            refine g_val (.pointer (some ⟨b, off + m * 31, none⟩)) hS (wanted_yes rfl rfl rfl eg) ?_ rfl
            have hcn := BigFrame.eval_const a'; have hfn := BigFrame.eval_func a'; clear hs hdep; generalize a'.eval = ev at *; go_simp
          · go_light; intro listed a' w' hs hS hun hdep
            have eg : a'.eval (.tmp 88) = .bool true := hs.eval 4 _ 88 rfl (hdep ⟨4, .guard⟩ (by simp) rfl) rfl
            have e92 : a'.eval (.tmp 92) = .pointer (some ⟨b, off + m * 31, none⟩) := hs.eval 8 _ 92 rfl (hdep ⟨8, .data⟩ (by simp) rfl) rfl
            exact g_val (.agg (L.lv y.1 y.2)) hS (wanted_yes rfl rfl rfl eg) (run_op_load_mid rfl e92 (HRm.out w' hS)) rfl
          · go_light; intro listed a' w' hs hS hun hdep
            have eg : a'.eval (.tmp 88) = .bool true := hs.eval 4 _ 88 rfl (hdep ⟨4, .guard⟩ (by simp) rfl) rfl
            have e0 : a'.eval (.tmp 0) = .slice (some ⟨b, off, none⟩) l.length cap := (hs.out 0 (by kernel_rfl)).trans (rfl)
            refine g_val (.slice (some ⟨b, off, none⟩) l.length cap) hS (wanted_yes rfl rfl rfl eg) ?_ rfl
            have hcn := BigFrame.eval_const a'; have hfn := BigFrame.eval_func a'; clear hs hdep; generalize a'.eval = ev at *; go_simp
          · go_light; intro listed a' w' hs hS hun hdep
            have eg : a'.eval (.tmp 88) = .bool true := hs.eval 4 _ 88 rfl (hdep ⟨4, .guard⟩ (by simp) rfl) rfl
            have e1 : a'.eval (.tmp 1) = .int .i64 m := (hs.out 1 (by kernel_rfl)).trans (rfl)
            refine g_val (.int .i64 m) hS (wanted_yes rfl rfl rfl eg) ?_ rfl
            have hcn := BigFrame.eval_const a'; have hfn := BigFrame.eval_func a'; clear hs hdep; generalize a'.eval = ev at *; go_simp
          · go_light; intro listed a' w' hs hS hun hdep
            have eg : a'.eval (.tmp 88) = .bool true := hs.eval 4 _ 88 rfl (hdep ⟨4, .guard⟩ (by simp) rfl) rfl
            have e94 : a'.eval (.tmp 94) = .slice (some ⟨b, off, none⟩) l.length cap := hs.eval 10 _ 94 rfl (hdep ⟨10, .data⟩ (by simp) rfl) rfl
            have e95 : a'.eval (.tmp 95) = .int .i64 m := hs.eval 11 _ 95 rfl (hdep ⟨11, .data⟩ (by simp) rfl) rfl
            refine g_val (.pointer (some ⟨b, off + m * 31, none⟩)) hS (wanted_yes rfl rfl rfl eg) ?_ rfl
            have hcn := BigFrame.eval_const a'; have hfn := BigFrame.eval_func a'; clear hs hdep; generalize a'.eval = ev at *; go_simp
          · go_light; intro listed a' w' hs hS hun hdep
            have eg : a'.eval (.tmp 88) = .bool true := hs.eval 4 _ 88 rfl (hdep ⟨4, .guard⟩ (by simp) rfl) rfl
            have e96 : a'.eval (.tmp 96) = .pointer (some ⟨b, off + m * 31, none⟩) := hs.eval 12 _ 96 rfl (hdep ⟨12, .data⟩ (by simp) rfl) rfl
            exact g_val (.agg (L.lv y.1 y.2)) hS (wanted_yes rfl rfl rfl eg) (run_op_load_mid rfl e96 (HRm.out w' hS)) rfl
          · go_light; intro listed a' w' hs hS hun hdep
            have eg : a'.eval (.tmp 88) = .bool true := hs.eval 4 _ 88 rfl (hdep ⟨4, .guard⟩ (by simp) rfl) rfl
            have e89 : a'.eval (.tmp 89) = .pointer (some ⟨g, 0, none⟩) := hs.eval 5 _ 89 rfl (hdep ⟨5, .data⟩ (by simp) rfl) rfl
            have e93 : a'.eval (.tmp 93) = .agg (L.lv y.1 y.2) := hs.eval 9 _ 93 rfl (hdep ⟨9, .data⟩ (by simp) rfl) rfl
            have e97 : a'.eval (.tmp 97) = .agg (L.lv y.1 y.2) := hs.eval 13 _ 97 rfl (hdep ⟨13, .data⟩ (by simp) rfl) rfl
            refine g_call 29 #[.pointer (some ⟨g, 0, none⟩), .agg (L.lv y.1 y.2), .agg (L.lv y.1 y.2)] hS (wanted_yes rfl rfl rfl eg) ?_ ?_
            · have hcn := BigFrame.eval_const a'; have hfn := BigFrame.eval_func a'; clear hs hdep; generalize a'.eval = ev at *; go_simp
            · exact Calls.mono (HWi.out w' (HT.out.below hS)) fun e w'' ⟨ao, cp, he, hr, hb⟩ => ⟨_, he, ⟨ao, cp, rfl, hr⟩, hb⟩
          · go_light; intro listed a' w' hs hS hun hdep
            have eg : a'.eval (.tmp 88) = .bool true := hs.eval 4 _ 88 rfl (hdep ⟨4, .guard⟩ (by simp) rfl) rfl
            have e1 : a'.eval (.tmp 1) = .int .i64 m := (hs.out 1 (by kernel_rfl)).trans (rfl)
            refine g_val (.int .i64 m) hS (wanted_yes rfl rfl rfl eg) ?_ rfl
            have hcn := BigFrame.eval_const a'; have hfn := BigFrame.eval_func a'; clear hs hdep; generalize a'.eval = ev at *; go_simp
          · go_light; intro listed a' w' hs hS hun hdep
            have eg : a'.eval (.tmp 88) = .bool true := hs.eval 4 _ 88 rfl (hdep ⟨4, .guard⟩ (by simp) rfl) rfl
            have e99 : a'.eval (.tmp 99) = .int .i64 m := hs.eval 15 _ 99 rfl (hdep ⟨15, .data⟩ (by simp) rfl) rfl
            refine g_new (.slice (some ⟨w'.heap.size, 0, none⟩) 1 1) (.cells #[.int .i64 m] 3) hS (wanted_yes rfl rfl rfl eg) ?_ ⟨some ⟨w'.heap.size, 0, none⟩, 1, rfl, irow_one w' m⟩
            have hcn := BigFrame.eval_const a'; have hfn := BigFrame.eval_func a'; clear hs hdep; generalize a'.eval = ev at *; go_simp
          · go_light; intro listed a' w' hs hS hun hdep
            have eg : a'.eval (.tmp 88) = .bool true := hs.eval 4 _ 88 rfl (hdep ⟨4, .guard⟩ (by simp) rfl) rfl
            have r98 : (.ints ([(m : Int)]) : GV).ok wr.heap.size (a'.eval (.tmp 98)) w' := hs.eval 14 _ 98 rfl (hdep ⟨14, .data⟩ (by simp) rfl) rfl
            obtain ⟨ao98, cp98, e98, k98⟩ := r98
            have r100 : (.ints ([(m : Int)]) : GV).ok wr.heap.size (a'.eval (.tmp 100)) w' := hs.eval 16 _ 100 rfl (hdep ⟨16, .data⟩ (by simp) rfl) rfl
            obtain ⟨ao100, cp100, e100, k100⟩ := r100
            refine g_call 28 #[.slice ao98 ([(m : Int)]).length cp98, .slice ao100 ([(m : Int)]).length cp100] hS (wanted_yes rfl rfl rfl eg) ?_ ?_
            · have hcn := BigFrame.eval_const a'; have hfn := BigFrame.eval_func a'; clear hs hdep; generalize a'.eval = ev at *; go_simp
            · exact c_val (HI.out ao98 ao100 cp98 cp100 w' k98 k100) rfl
          · go_light; intro listed a' w' hs hS hun hdep
            have e88 : a'.eval (.tmp 88) = .bool true := hs.eval 4 _ 88 rfl (hdep ⟨4, .data⟩ (by simp) rfl) rfl
            have e101 : a'.eval (.tmp 101) = .bool true := hs.eval 17 _ 101 rfl (hdep ⟨17, .data⟩ (by simp) rfl) rfl
            refine g_val (.bool true) hS rfl ?_ rfl
            have hcn := BigFrame.eval_const a'; have hfn := BigFrame.eval_func a'; clear hs hdep; generalize a'.eval = ev at *; go_simp
          · go_light; intro listed a' w' hs hS hun hdep
            have e102 : a'.eval (.tmp 102) = .bool true := hs.eval 18 _ 102 rfl (hdep ⟨18, .data⟩ (by simp) rfl) rfl
            refine g_val (.bool true) hS rfl ?_ rfl
            have hcn := BigFrame.eval_const a'; have hfn := BigFrame.eval_func a'; clear hs hdep; generalize a'.eval = ev at *; go_simp
          · intro vs wz hlen hV listed hall hS
            obtain ⟨v0, v1, v2, v3, v4, v5, v6, v7, v8, v9, v10, v11, v12, v13, v14, v15, v16, v17, v18, v19, rfl⟩ := vs20 vs (hlen.trans rfl)
            have q0 : v0 = .slice (some ⟨B, 0, none⟩) l.length l.length := hV 0 _ rfl
            have q1 : v1 = .int .i64 m := hV 1 _ rfl
            have q2 : v2 = .pointer (some ⟨B, m, none⟩) := hV 2 _ rfl
            have q3 : v3 = .bool true := hV 3 _ rfl
            have q4 : v4 = .bool true := hV 4 _ rfl
            have q5 : v5 = .pointer (some ⟨g, 0, none⟩) := hV 5 _ rfl
            have q6 : v6 = .slice (some ⟨b, off, none⟩) l.length cap := hV 6 _ rfl
            have q7 : v7 = .int .i64 m := hV 7 _ rfl
            have q8 : v8 = .pointer (some ⟨b, off + m * 31, none⟩) := hV 8 _ rfl
            have q9 : v9 = .agg (L.lv y.1 y.2) := hV 9 _ rfl
            have q10 : v10 = .slice (some ⟨b, off, none⟩) l.length cap := hV 10 _ rfl
            have q11 : v11 = .int .i64 m := hV 11 _ rfl
            have q12 : v12 = .pointer (some ⟨b, off + m * 31, none⟩) := hV 12 _ rfl
            have q13 : v13 = .agg (L.lv y.1 y.2) := hV 13 _ rfl
            obtain ⟨aq14, cq14, q14, _⟩ : (.ints ([(m : Int)]) : GV).ok wr.heap.size v14 wz := hV 14 _ rfl
            have q15 : v15 = .int .i64 m := hV 15 _ rfl
            obtain ⟨aq16, cq16, q16, _⟩ : (.ints ([(m : Int)]) : GV).ok wr.heap.size v16 wz := hV 16 _ rfl
            have q17 : v17 = .bool true := hV 17 _ rfl
            have q18 : v18 = .bool true := hV 18 _ rfl
            have q19 : v19 = .bool true := hV 19 _ rfl
            have hbel : Below wr.heap.size wr wz := hS
            subst q0 q1 q2 q3 q4 q5 q6 q7 q8 q9 q10 q11 q12 q13 q14 q15 q16 q17 q18 q19
            clear hV hS hall
            simp only [lays, Act.put, List.setIfInBounds_toArray, List.set_cons_zero, List.set_cons_succ]
            have hbz := hbz0.trans (hbel.mono hbz0.size)
            go_wp2
            go_ret
            exact ⟨rfl, hbz⟩
#print axioms below_all
end Go.Proofs.Ytdipoaekdafbeaa
