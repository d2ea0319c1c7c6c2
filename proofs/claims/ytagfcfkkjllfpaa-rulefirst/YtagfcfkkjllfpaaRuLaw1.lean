/- RuleFirst, walked whole. -/
import Derived.Test.YtagfcfkkjllfpaaRuMore
namespace Go.Proofs.Ytagfcfkkjllfpaa
open Go.RowKit
set_option maxRecDepth 100000
set_option linter.unusedVariables false
open U

-- REGIONS

set_option maxHeartbeats 16000000 in
theorem rfirst_law (a0 : Option Addr) (cap : Nat) (l : List Ru) (a : U.Ask) (w : World) (h : RRow w a0 l) (hf : Fine l) (ha : a.fine) :
    Calls Try.prog 3 #[.slice a0 l.length cap, .agg a.v.toArray] w fun e w' => e = .returned (.bool true) ∧ Below w.heap.size w w' := by
  have hb0 := below1 w (.cells a.v.toArray 27)
  by_cases h80 : 80 < l.length
  · have h80' : (80 : Int) < (l.length : Int) := by omega
    obtain ⟨ai, ao, as_, ad, ap, asp, adp⟩ := a
    simp only [Ask.v] at *
    go_enter Try.func3, Try.ntmps3
    go_wp2_with fail
    refine (rule_awake _).mono ?_
    rintro e w1 ⟨rfl, hb1⟩
    have hbw := hb0.trans (hb1.mono hb0.size)
    go_wp2
    go_ret
    exact ⟨rfl, hbw⟩
  have h80' : ¬ (80 : Int) < (l.length : Int) := by omega
  have hl : l.length ≤ 1000000 := by omega
  have HR := Lib.hid h
  have HF := Lib.hid hf
  have HRF := Lib.hid (fun w' (hb : Below w.heap.size w w') => rfirst_any a0 cap l a w' (h.below hb) hf ha hl)
  have HFI := Lib.hid (fun w' (hb : Below w.heap.size w w') => First_any a0 cap l a w' (h.below hb) hf ha hl)
  have HAL := Lib.hid (fun w' (hb : Below w.heap.size w w') => Allows_any a0 cap l a w' (h.below hb) hf ha hl)
  have HRI := Lib.hid (fun w' (hb : Below w.heap.size w w') => Right_any a0 cap l w' (h.below hb) hf hl)
  have HCase := Lib.hid (first_cases (fun k => (ru l k).m a) l.length)
  have HAlw := Lib.hid (show allows l a = (decide (0 ≤ Rfirst l a) && (ru l (Rfirst l a).toNat).al) from rfl)
  have HRd := Lib.hid (show first (fun k => (ru l k).m a) l.length = Rfirst l a from rfl)
  rw [HRd.out] at HCase
  clear h hf hl HRd h80
  generalize allows l a = aw at *
  obtain ⟨ai, ao, as_, ad, ap, asp, adp⟩ := a
  have Has_ := Lib.hid ha.1
  have Had := Lib.hid ha.2
  clear ha
  simp only [Ask.v, Ask.k] at *
  generalize Rfirst l ⟨ai, ao, as_, ad, ap, asp, adp⟩ = fi at *
  have LA0 := Lib.hid (Lies.new w [.int .i64 ai, .int .i64 ao, .int .u32 as_, .int .u32 ad, .int .i64 ap, .int .i64 asp, .int .i64 adp] 27)
  go_enter Try.func3, Try.ntmps3
  go_wp2_with fail
  refine (HRF.out _ hb0).mono ?_
  rintro e w1 ⟨rfl, hb1⟩
  have hbw1 := hb0.trans (hb1.mono hb0.size)
  have LA1 := Lib.hid (LA0.out.below hb1)
  clear HRF hb1 LA0 hb0
  go_wp2
  go_loopw [6, 7] (fun q i wr => ∃ (k : Nat) (rt : Bool), k ≤ l.length ∧ i = .int .i64 k ∧ q = .bool rt ∧ Hid (rt = true ↔ ∀ j, j < k → (ru l j).ok = true) ∧ Below w1.heap.size w1 wr ∧ Below w.heap.size w wr) (fun _ i _ => l.length - (intOf i).toNat)
  case atStart => exact ⟨0, true, Nat.zero_le _, rfl, rfl, Lib.hid ⟨fun _ j hj => by omega, fun _ => rfl⟩, Below.refl _ _, hbw1⟩
  case round =>
    obtain ⟨k, rt, hk, rfl, rfl, HRt, hb, hbw⟩ := hrel
    by_cases hkl : k < l.length
    · have hkl2 : (k : Int) < (l.length : Int) := by omega
      obtain ⟨b, off, rfl, hbl, hL⟩ := (HR.out.below hbw).at k _ (ru_get l k hkl)
      have hfin := HF.out _ (ru_mem l k hkl)
      have HRt2 : Hid ((rt && (ru l k).ok) = true ↔ ∀ j, j < k + 1 → (ru l j).ok = true) := Lib.hid (by
        rw [Bool.and_eq_true, HRt.out]
        constructor
        · rintro ⟨h1, h2⟩ j h3
          rcases Nat.lt_or_ge j k with h4 | h4
          · exact h1 j h4
          · obtain rfl : j = k := by omega
            exact h2
        · intro h
          exact ⟨fun j h1 => h j (by omega), h k (by omega)⟩)
      have LA := Lib.hid (LA1.out.below hb)
      have LR := Lib.hid hL
      clear hL HRt
      generalize ru l k = r at *
      obtain ⟨i, o, sa, sb, da, db, p, slo, shi, dlo, dhi, al⟩ := r
      have Hsa := Lib.hid hfin.1
      have Hda := Lib.hid hfin.2
      simp only [Ru.v] at LR
      clear hfin
      go_upto_region 8 with fail
      obtain ⟨m32, hm32⟩ : ∃ x, (((⟨i, o, sa, sb, da, db, p, slo, shi, dlo, dhi, al⟩ : Ru).ok)) = x := ⟨_, rfl⟩
      replace hm32 := Lib.hid hm32
      have C32 := Lib.hid (fun (w' : World) (hb : Below wr.heap.size wr w') => show Calls Try.prog 12 #[.agg #[.int .i64 i, .int .i64 o, .int .u32 sa, .int .i64 sb, .int .u32 da, .int .i64 db, .int .i64 p, .int .i64 slo, .int .i64 shi, .int .i64 dlo, .int .i64 dhi, .bool al]] w' (fun e w'' => e = .returned (.bool m32) ∧ Below w'.heap.size w' w'') from (by rw [← hm32.out]; exact refok_any ⟨i, o, sa, sb, da, db, p, slo, shi, dlo, dhi, al⟩ w' Hsa.out Hda.out))
      obtain ⟨m33, hm33⟩ : ∃ x, (rt && m32) = x := ⟨_, rfl⟩
      replace hm33 := Lib.hid hm33
      refine region_seq 8 (VG wr.heap.size [.val (.bool rt), .val (.bool rt), .val (if rt = true then .slice (some ⟨b, off, none⟩) l.length cap else undef), .val (if rt = true then .int .i64 k else undef), .val (if rt = true then .pointer (some ⟨b, off + k * 12, none⟩) else undef), .val (if rt = true then .agg #[.int .i64 i, .int .i64 o, .int .u32 sa, .int .i64 sb, .int .u32 da, .int .i64 db, .int .i64 p, .int .i64 slo, .int .i64 shi, .int .i64 dlo, .int .i64 dhi, .bool al] else undef), .val (if rt = true then .bool m32 else undef), .val (.bool m33)]) (BS wr) (by kernel_rfl) (Below.refl _ _) ⟨?_, ?_, ?_, ?_, ?_, ?_, ?_, ?_, trivial⟩ ?_
      · go_light; intro listed a' w' hs hS hun hdep
        have n6 := hs.lat 0 8 hun _ rfl .phase (by simp) rfl
        have e6 : a'.eval (.tmp 6) = .bool rt := (hs.yet 6 8 (by kernel_rfl) n6).trans (rfl)
        exact g_val (.bool rt) hS rfl (op_move rfl e6) rfl
      · go_light; intro listed a' w' hs hS hun hdep
        have e26 : a'.eval (.tmp 26) = (.bool rt) := hs.eval 0 _ 26 rfl (hdep ⟨0, .data⟩ (by simp) rfl) rfl
        exact g_val (.bool rt) hS rfl (op_move rfl e26) rfl
      · go_light; intro listed a' w' hs hS hun hdep
        have eg : a'.eval (.tmp 27) = (.bool rt) := hs.eval 1 _ 27 rfl (hdep ⟨1, .guard⟩ (by simp) rfl) rfl
        have e0 : a'.eval (.tmp 0) = .slice (some ⟨b, off, none⟩) l.length cap := (hs.out 0 (by kernel_rfl)).trans (rfl)
        cases rt
        · exact g_not hS (wanted_no rfl rfl rfl eg (by decide)) rfl
        · exact g_val (.slice (some ⟨b, off, none⟩) l.length cap) hS (wanted_yes rfl rfl rfl eg) (op_move rfl e0) rfl
      · go_light; intro listed a' w' hs hS hun hdep
        have eg : a'.eval (.tmp 27) = (.bool rt) := hs.eval 1 _ 27 rfl (hdep ⟨1, .guard⟩ (by simp) rfl) rfl
        have e7 : a'.eval (.tmp 7) = .int .i64 k := (hs.out 7 (by kernel_rfl)).trans (rfl)
        cases rt
        · exact g_not hS (wanted_no rfl rfl rfl eg (by decide)) rfl
        · exact g_val (.int .i64 k) hS (wanted_yes rfl rfl rfl eg) (op_move rfl e7) rfl
      · go_light; intro listed a' w' hs hS hun hdep
        have eg : a'.eval (.tmp 27) = (.bool rt) := hs.eval 1 _ 27 rfl (hdep ⟨1, .guard⟩ (by simp) rfl) rfl
        have e28 : a'.eval (.tmp 28) = (if rt = true then .slice (some ⟨b, off, none⟩) l.length cap else undef) := hs.eval 2 _ 28 rfl (hdep ⟨2, .data⟩ (by simp) rfl) rfl
        have e29 : a'.eval (.tmp 29) = (if rt = true then .int .i64 k else undef) := hs.eval 3 _ 29 rfl (hdep ⟨3, .data⟩ (by simp) rfl) rfl
        cases rt
        · exact g_not hS (wanted_no rfl rfl rfl eg (by decide)) rfl
        · replace e28 := e28.trans (if_pos rfl)
          replace e29 := e29.trans (if_pos rfl)
          exact g_val (.pointer (some ⟨b, off + k * 12, none⟩)) hS (wanted_yes rfl rfl rfl eg) (op_ixa rfl e28 e29 Try.underlying22 (by kernel_rfl) hkl) rfl
      · go_light; intro listed a' w' hs hS hun hdep
        have eg : a'.eval (.tmp 27) = (.bool rt) := hs.eval 1 _ 27 rfl (hdep ⟨1, .guard⟩ (by simp) rfl) rfl
        have e30 : a'.eval (.tmp 30) = (if rt = true then .pointer (some ⟨b, off + k * 12, none⟩) else undef) := hs.eval 4 _ 30 rfl (hdep ⟨4, .data⟩ (by simp) rfl) rfl
        cases rt
        · exact g_not hS (wanted_no rfl rfl rfl eg (by decide)) rfl
        · replace e30 := e30.trans (if_pos rfl)
          exact g_val (.agg #[.int .i64 i, .int .i64 o, .int .u32 sa, .int .i64 sb, .int .u32 da, .int .i64 db, .int .i64 p, .int .i64 slo, .int .i64 shi, .int .i64 dlo, .int .i64 dhi, .bool al]) hS (wanted_yes rfl rfl rfl eg) (op_ld [.int .i64 i, .int .i64 o, .int .u32 sa, .int .i64 sb, .int .u32 da, .int .i64 db, .int .i64 p, .int .i64 slo, .int .i64 shi, .int .i64 dlo, .int .i64 dhi, .bool al] rfl e30 (LR.out.below hS) 0 (by first | rfl | simp) rfl Try.underlying34 rfl (by kernel_rfl)) rfl
      · go_light; intro listed a' w' hs hS hun hdep
        have eg : a'.eval (.tmp 27) = (.bool rt) := hs.eval 1 _ 27 rfl (hdep ⟨1, .guard⟩ (by simp) rfl) rfl
        have e31 : a'.eval (.tmp 31) = (if rt = true then .agg #[.int .i64 i, .int .i64 o, .int .u32 sa, .int .i64 sb, .int .u32 da, .int .i64 db, .int .i64 p, .int .i64 slo, .int .i64 shi, .int .i64 dlo, .int .i64 dhi, .bool al] else undef) := hs.eval 5 _ 31 rfl (hdep ⟨5, .data⟩ (by simp) rfl) rfl
        cases rt
        · exact g_not hS (wanted_no rfl rfl rfl eg (by decide)) rfl
        · replace e31 := e31.trans (if_pos rfl)
          refine g_call 12 #[.agg #[.int .i64 i, .int .i64 o, .int .u32 sa, .int .i64 sb, .int .u32 da, .int .i64 db, .int .i64 p, .int .i64 slo, .int .i64 shi, .int .i64 dlo, .int .i64 dhi, .bool al]] hS (wanted_yes rfl rfl rfl eg) ?_ ?_
          · have hcn := BigFrame.eval_const a'; have hfn := BigFrame.eval_func a'; clear hs hdep; generalize a'.eval = ev at *; go_simp
          · exact c_val (C32.out w' hS) rfl
      · go_light; intro listed a' w' hs hS hun hdep
        have e27 : a'.eval (.tmp 27) = (.bool rt) := hs.eval 1 _ 27 rfl (hdep ⟨1, .data⟩ (by simp) rfl) rfl
        have e32 : a'.eval (.tmp 32) = (if rt = true then .bool m32 else undef) := hs.eval 6 _ 32 rfl (hdep ⟨6, .data⟩ (by simp) rfl) rfl
        refine g_val (.bool m33) hS rfl ?_ rfl
        cases rt
        · replace e32 := e32.trans (if_neg (by decide))
          exact (op_pick_f rfl e27 (BigFrame.eval_const a' _)).trans (by rw [← hm33.out]; first | rfl | simp)
        · replace e32 := e32.trans (if_pos rfl)
          exact (op_pick_t rfl e27 e32).trans (by rw [← hm33.out]; first | rfl | simp)
      · intro vs w3 hlen hV hS
        obtain ⟨v0, v1, v2, v3, v4, v5, v6, v7, rfl⟩ := vs_8 vs (hlen.trans rfl)
        have q0 : v0 = .bool rt := hV 0 _ rfl
        have q1 : v1 = .bool rt := hV 1 _ rfl
        have q7 : v7 = .bool m33 := hV 7 _ rfl
        have hbel : Below wr.heap.size wr w3 := hS
        subst q0 q1 q7
        clear hV hS hlen
        simp only [lays, Act.put, List.setIfInBounds_toArray, List.set_cons_zero, List.set_cons_succ, List.drop_succ_cons, List.drop_zero, List.take_succ_cons, List.take_zero]
        have h32 := hm32.out
        rw [h32] at HRt2
        have hm : (rt && m32) = m33 := hm33.out
        rw [hm] at HRt2
        have LR3 := Lib.hid (LR.out.below hbel)
        have LA3 := Lib.hid (LA.out.below hbel)
        have hb3 := hb.trans (hbel.mono hb.size)
        have hbw3 := hbw.trans (hbel.mono hbw.size)
        clear h32 hm hm32 hm33 hbel hb hbw LR LA C32
        go_wp2
        obtain ⟨m39, hm39⟩ : ∃ x, ((⟨i, o, sa, sb, da, db, p, slo, shi, dlo, dhi, al⟩ : Ru).m ⟨ai, ao, as_, ad, ap, asp, adp⟩) = x := ⟨_, rfl⟩
        replace hm39 := Lib.hid hm39
        have C39 := Lib.hid (fun (w' : World) (hb : Below w3.heap.size w3 w') => show Calls Try.prog 13 #[.agg #[.int .i64 i, .int .i64 o, .int .u32 sa, .int .i64 sb, .int .u32 da, .int .i64 db, .int .i64 p, .int .i64 slo, .int .i64 shi, .int .i64 dlo, .int .i64 dhi, .bool al], .agg #[.int .i64 ai, .int .i64 ao, .int .u32 as_, .int .u32 ad, .int .i64 ap, .int .i64 asp, .int .i64 adp]] w' (fun e w'' => e = .returned (.bool m39) ∧ Below w'.heap.size w' w'') from (by rw [← hm39.out]; exact Matches_any ⟨i, o, sa, sb, da, db, p, slo, shi, dlo, dhi, al⟩ ⟨ai, ao, as_, ad, ap, asp, adp⟩ w' ⟨Hsa.out, Hda.out⟩ ⟨Has_.out, Had.out⟩))
        obtain ⟨m50, hm50⟩ : ∃ x, ((⟨i, o, sa, sb, da, db, p, slo, shi, dlo, dhi, al⟩ : Ru).m ⟨ai, ao, as_, ad, ap, asp, adp⟩) = x := ⟨_, rfl⟩
        replace hm50 := Lib.hid hm50
        have C50 := Lib.hid (fun (w' : World) (hb : Below w3.heap.size w3 w') => show Calls Try.prog 14 #[.agg #[.int .i64 i, .int .i64 o, .int .u32 sa, .int .i64 sb, .int .u32 da, .int .i64 db, .int .i64 p, .int .i64 slo, .int .i64 shi, .int .i64 dlo, .int .i64 dhi, .bool al], .int .i64 ai, .int .i64 ao, .agg #[.int .u32 as_, .int .u32 ad, .int .i64 ap, .int .i64 asp, .int .i64 adp]] w' (fun e w'' => e = .returned (.bool m50) ∧ Below w'.heap.size w' w'') from (by rw [← hm50.out]; exact refm_any ⟨i, o, sa, sb, da, db, p, slo, shi, dlo, dhi, al⟩ ⟨ai, ao, as_, ad, ap, asp, adp⟩ w' Hsa.out Hda.out Has_.out Had.out))
        obtain ⟨m51, hm51⟩ : ∃ x, (!(m39 == m50)) = x := ⟨_, rfl⟩
        replace hm51 := Lib.hid hm51
        refine region_gen (VG w3.heap.size [.val (.slice (some ⟨b, off, none⟩) l.length cap), .val (.int .i64 k), .val (.pointer (some ⟨b, off + k * 12, none⟩)), .val (.agg #[.int .i64 i, .int .i64 o, .int .u32 sa, .int .i64 sb, .int .u32 da, .int .i64 db, .int .i64 p, .int .i64 slo, .int .i64 shi, .int .i64 dlo, .int .i64 dhi, .bool al]), .val (.agg #[.int .i64 ai, .int .i64 ao, .int .u32 as_, .int .u32 ad, .int .i64 ap, .int .i64 asp, .int .i64 adp]), .val (.bool m39), .val (.slice (some ⟨b, off, none⟩) l.length cap), .val (.int .i64 k), .val (.pointer (some ⟨b, off + k * 12, none⟩)), .val (.agg #[.int .i64 i, .int .i64 o, .int .u32 sa, .int .i64 sb, .int .u32 da, .int .i64 db, .int .i64 p, .int .i64 slo, .int .i64 shi, .int .i64 dlo, .int .i64 dhi, .bool al]), .val (.pointer (some ⟨w.heap.size, 0, none⟩)), .val (.int .i64 ai), .val (.pointer (some ⟨w.heap.size, 1, none⟩)), .val (.int .i64 ao), .val (.pointer (some ⟨w.heap.size, 2, none⟩)), .val (.agg #[.int .u32 as_, .int .u32 ad, .int .i64 ap, .int .i64 asp, .int .i64 adp]), .val (.bool m50), .val (.bool m51)]) (BS w3) (by kernel_rfl) (by kernel_rfl) (Below.refl _ _).drew ⟨?_, ?_, ?_, ?_, ?_, ?_, ?_, ?_, ?_, ?_, ?_, ?_, ?_, ?_, ?_, ?_, ?_, ?_, trivial⟩ ?_
        · go_light; intro listed a' w' hs hS hun hdep
          have e0 : a'.eval (.tmp 0) = .slice (some ⟨b, off, none⟩) l.length cap := (hs.out 0 (by kernel_rfl)).trans (rfl)
          exact g_val (.slice (some ⟨b, off, none⟩) l.length cap) hS rfl (op_move rfl e0) rfl
        · go_light; intro listed a' w' hs hS hun hdep
          have e7 : a'.eval (.tmp 7) = .int .i64 k := (hs.out 7 (by kernel_rfl)).trans (rfl)
          exact g_val (.int .i64 k) hS rfl (op_move rfl e7) rfl
        · go_light; intro listed a' w' hs hS hun hdep
          have e34 : a'.eval (.tmp 34) = (.slice (some ⟨b, off, none⟩) l.length cap) := hs.eval 0 _ 34 rfl (hdep ⟨0, .data⟩ (by simp) rfl) rfl
          have e35 : a'.eval (.tmp 35) = (.int .i64 k) := hs.eval 1 _ 35 rfl (hdep ⟨1, .data⟩ (by simp) rfl) rfl
          exact g_val (.pointer (some ⟨b, off + k * 12, none⟩)) hS rfl (op_ixa rfl e34 e35 Try.underlying22 (by kernel_rfl) hkl) rfl
        · go_light; intro listed a' w' hs hS hun hdep
          have e36 : a'.eval (.tmp 36) = (.pointer (some ⟨b, off + k * 12, none⟩)) := hs.eval 2 _ 36 rfl (hdep ⟨2, .data⟩ (by simp) rfl) rfl
          exact g_val (.agg #[.int .i64 i, .int .i64 o, .int .u32 sa, .int .i64 sb, .int .u32 da, .int .i64 db, .int .i64 p, .int .i64 slo, .int .i64 shi, .int .i64 dlo, .int .i64 dhi, .bool al]) hS rfl (op_ld [.int .i64 i, .int .i64 o, .int .u32 sa, .int .i64 sb, .int .u32 da, .int .i64 db, .int .i64 p, .int .i64 slo, .int .i64 shi, .int .i64 dlo, .int .i64 dhi, .bool al] rfl e36 (LR3.out.below hS) 0 (by first | rfl | simp) rfl Try.underlying34 rfl (by kernel_rfl)) rfl
        · go_light; intro listed a' w' hs hS hun hdep
          have e3 : a'.eval (.tmp 3) = .pointer (some ⟨w.heap.size, 0, none⟩) := (hs.out 3 (by kernel_rfl)).trans (rfl)
          exact g_val (.agg #[.int .i64 ai, .int .i64 ao, .int .u32 as_, .int .u32 ad, .int .i64 ap, .int .i64 asp, .int .i64 adp]) hS rfl (op_ld [.int .i64 ai, .int .i64 ao, .int .u32 as_, .int .u32 ad, .int .i64 ap, .int .i64 asp, .int .i64 adp] rfl e3 (LA3.out.below hS) 0 (by first | rfl | simp) rfl Try.underlying27 rfl (by kernel_rfl)) rfl
        · go_light; intro listed a' w' hs hS hun hdep
          have e37 : a'.eval (.tmp 37) = (.agg #[.int .i64 i, .int .i64 o, .int .u32 sa, .int .i64 sb, .int .u32 da, .int .i64 db, .int .i64 p, .int .i64 slo, .int .i64 shi, .int .i64 dlo, .int .i64 dhi, .bool al]) := hs.eval 3 _ 37 rfl (hdep ⟨3, .data⟩ (by simp) rfl) rfl
          have e38 : a'.eval (.tmp 38) = (.agg #[.int .i64 ai, .int .i64 ao, .int .u32 as_, .int .u32 ad, .int .i64 ap, .int .i64 asp, .int .i64 adp]) := hs.eval 4 _ 38 rfl (hdep ⟨4, .data⟩ (by simp) rfl) rfl
          refine g_call 13 #[.agg #[.int .i64 i, .int .i64 o, .int .u32 sa, .int .i64 sb, .int .u32 da, .int .i64 db, .int .i64 p, .int .i64 slo, .int .i64 shi, .int .i64 dlo, .int .i64 dhi, .bool al], .agg #[.int .i64 ai, .int .i64 ao, .int .u32 as_, .int .u32 ad, .int .i64 ap, .int .i64 asp, .int .i64 adp]] hS rfl ?_ ?_
          · have hcn := BigFrame.eval_const a'; have hfn := BigFrame.eval_func a'; clear hs hdep; generalize a'.eval = ev at *; go_simp
          · exact c_val (C39.out w' hS) rfl
        · go_light; intro listed a' w' hs hS hun hdep
          have e0 : a'.eval (.tmp 0) = .slice (some ⟨b, off, none⟩) l.length cap := (hs.out 0 (by kernel_rfl)).trans (rfl)
          exact g_val (.slice (some ⟨b, off, none⟩) l.length cap) hS rfl (op_move rfl e0) rfl
        · go_light; intro listed a' w' hs hS hun hdep
          have e7 : a'.eval (.tmp 7) = .int .i64 k := (hs.out 7 (by kernel_rfl)).trans (rfl)
          exact g_val (.int .i64 k) hS rfl (op_move rfl e7) rfl
        · go_light; intro listed a' w' hs hS hun hdep
          have e40 : a'.eval (.tmp 40) = (.slice (some ⟨b, off, none⟩) l.length cap) := hs.eval 6 _ 40 rfl (hdep ⟨6, .data⟩ (by simp) rfl) rfl
          have e41 : a'.eval (.tmp 41) = (.int .i64 k) := hs.eval 7 _ 41 rfl (hdep ⟨7, .data⟩ (by simp) rfl) rfl
          exact g_val (.pointer (some ⟨b, off + k * 12, none⟩)) hS rfl (op_ixa rfl e40 e41 Try.underlying22 (by kernel_rfl) hkl) rfl
        · go_light; intro listed a' w' hs hS hun hdep
          have e42 : a'.eval (.tmp 42) = (.pointer (some ⟨b, off + k * 12, none⟩)) := hs.eval 8 _ 42 rfl (hdep ⟨8, .data⟩ (by simp) rfl) rfl
          exact g_val (.agg #[.int .i64 i, .int .i64 o, .int .u32 sa, .int .i64 sb, .int .u32 da, .int .i64 db, .int .i64 p, .int .i64 slo, .int .i64 shi, .int .i64 dlo, .int .i64 dhi, .bool al]) hS rfl (op_ld [.int .i64 i, .int .i64 o, .int .u32 sa, .int .i64 sb, .int .u32 da, .int .i64 db, .int .i64 p, .int .i64 slo, .int .i64 shi, .int .i64 dlo, .int .i64 dhi, .bool al] rfl e42 (LR3.out.below hS) 0 (by first | rfl | simp) rfl Try.underlying34 rfl (by kernel_rfl)) rfl
        · go_light; intro listed a' w' hs hS hun hdep
          have e3 : a'.eval (.tmp 3) = .pointer (some ⟨w.heap.size, 0, none⟩) := (hs.out 3 (by kernel_rfl)).trans (rfl)
          refine g_val (.pointer (some ⟨w.heap.size, 0, none⟩)) hS rfl ?_ rfl
          have hcn := BigFrame.eval_const a'; have hfn := BigFrame.eval_func a'; clear hs hdep; generalize a'.eval = ev at *; go_simp
        · go_light; intro listed a' w' hs hS hun hdep
          have e44 : a'.eval (.tmp 44) = (.pointer (some ⟨w.heap.size, 0, none⟩)) := hs.eval 10 _ 44 rfl (hdep ⟨10, .data⟩ (by simp) rfl) rfl
          exact g_val (.int .i64 ai) hS rfl (op_ld1 (.int .i64 ai) rfl e44 (LA3.out.below hS) 0 (by first | rfl | simp) rfl Try.underlying3 rfl) rfl
        · go_light; intro listed a' w' hs hS hun hdep
          have e3 : a'.eval (.tmp 3) = .pointer (some ⟨w.heap.size, 0, none⟩) := (hs.out 3 (by kernel_rfl)).trans (rfl)
          refine g_val (.pointer (some ⟨w.heap.size, 1, none⟩)) hS rfl ?_ rfl
          have hcn := BigFrame.eval_const a'; have hfn := BigFrame.eval_func a'; clear hs hdep; generalize a'.eval = ev at *; go_simp
        · go_light; intro listed a' w' hs hS hun hdep
          have e46 : a'.eval (.tmp 46) = (.pointer (some ⟨w.heap.size, 1, none⟩)) := hs.eval 12 _ 46 rfl (hdep ⟨12, .data⟩ (by simp) rfl) rfl
          exact g_val (.int .i64 ao) hS rfl (op_ld1 (.int .i64 ao) rfl e46 (LA3.out.below hS) 1 (by first | rfl | simp) rfl Try.underlying3 rfl) rfl
        · go_light; intro listed a' w' hs hS hun hdep
          have e3 : a'.eval (.tmp 3) = .pointer (some ⟨w.heap.size, 0, none⟩) := (hs.out 3 (by kernel_rfl)).trans (rfl)
          refine g_val (.pointer (some ⟨w.heap.size, 2, none⟩)) hS rfl ?_ rfl
          have hcn := BigFrame.eval_const a'; have hfn := BigFrame.eval_func a'; clear hs hdep; generalize a'.eval = ev at *; go_simp
        · go_light; intro listed a' w' hs hS hun hdep
          have e48 : a'.eval (.tmp 48) = (.pointer (some ⟨w.heap.size, 2, none⟩)) := hs.eval 14 _ 48 rfl (hdep ⟨14, .data⟩ (by simp) rfl) rfl
          exact g_val (.agg #[.int .u32 as_, .int .u32 ad, .int .i64 ap, .int .i64 asp, .int .i64 adp]) hS rfl (op_ld [.int .u32 as_, .int .u32 ad, .int .i64 ap, .int .i64 asp, .int .i64 adp] rfl e48 (LA3.out.below hS) 2 (by first | rfl | simp) rfl Try.underlying25 rfl (by kernel_rfl)) rfl
        · go_light; intro listed a' w' hs hS hun hdep
          have e43 : a'.eval (.tmp 43) = (.agg #[.int .i64 i, .int .i64 o, .int .u32 sa, .int .i64 sb, .int .u32 da, .int .i64 db, .int .i64 p, .int .i64 slo, .int .i64 shi, .int .i64 dlo, .int .i64 dhi, .bool al]) := hs.eval 9 _ 43 rfl (hdep ⟨9, .data⟩ (by simp) rfl) rfl
          have e45 : a'.eval (.tmp 45) = (.int .i64 ai) := hs.eval 11 _ 45 rfl (hdep ⟨11, .data⟩ (by simp) rfl) rfl
          have e47 : a'.eval (.tmp 47) = (.int .i64 ao) := hs.eval 13 _ 47 rfl (hdep ⟨13, .data⟩ (by simp) rfl) rfl
          have e49 : a'.eval (.tmp 49) = (.agg #[.int .u32 as_, .int .u32 ad, .int .i64 ap, .int .i64 asp, .int .i64 adp]) := hs.eval 15 _ 49 rfl (hdep ⟨15, .data⟩ (by simp) rfl) rfl
          refine g_call 14 #[.agg #[.int .i64 i, .int .i64 o, .int .u32 sa, .int .i64 sb, .int .u32 da, .int .i64 db, .int .i64 p, .int .i64 slo, .int .i64 shi, .int .i64 dlo, .int .i64 dhi, .bool al], .int .i64 ai, .int .i64 ao, .agg #[.int .u32 as_, .int .u32 ad, .int .i64 ap, .int .i64 asp, .int .i64 adp]] hS rfl ?_ ?_
          · have hcn := BigFrame.eval_const a'; have hfn := BigFrame.eval_func a'; clear hs hdep; generalize a'.eval = ev at *; go_simp
          · exact c_val (C50.out w' hS) rfl
        · go_light; intro listed a' w' hs hS hun hdep
          have e39 : a'.eval (.tmp 39) = (.bool m39) := hs.eval 5 _ 39 rfl (hdep ⟨5, .data⟩ (by simp) rfl) rfl
          have e50 : a'.eval (.tmp 50) = (.bool m50) := hs.eval 16 _ 50 rfl (hdep ⟨16, .data⟩ (by simp) rfl) rfl
          exact g_val (.bool m51) hS rfl ((op_neqb rfl e39 e50 Try.underlying4).trans (by rw [hm51.out])) rfl
        · intro vs w4 hlen hV listed hall hS
          obtain ⟨v0, v1, v2, v3, v4, v5, v6, v7, v8, v9, v10, v11, v12, v13, v14, v15, v16, v17, rfl⟩ := vs_18 vs (hlen.trans rfl)
          have q0 : v0 = .slice (some ⟨b, off, none⟩) l.length cap := hV 0 _ rfl
          have q1 : v1 = .int .i64 k := hV 1 _ rfl
          have q2 : v2 = .pointer (some ⟨b, off + k * 12, none⟩) := hV 2 _ rfl
          have q3 : v3 = .agg #[.int .i64 i, .int .i64 o, .int .u32 sa, .int .i64 sb, .int .u32 da, .int .i64 db, .int .i64 p, .int .i64 slo, .int .i64 shi, .int .i64 dlo, .int .i64 dhi, .bool al] := hV 3 _ rfl
          have q4 : v4 = .agg #[.int .i64 ai, .int .i64 ao, .int .u32 as_, .int .u32 ad, .int .i64 ap, .int .i64 asp, .int .i64 adp] := hV 4 _ rfl
          have q5 : v5 = .bool m39 := hV 5 _ rfl
          have q6 : v6 = .slice (some ⟨b, off, none⟩) l.length cap := hV 6 _ rfl
          have q7 : v7 = .int .i64 k := hV 7 _ rfl
          have q8 : v8 = .pointer (some ⟨b, off + k * 12, none⟩) := hV 8 _ rfl
          have q9 : v9 = .agg #[.int .i64 i, .int .i64 o, .int .u32 sa, .int .i64 sb, .int .u32 da, .int .i64 db, .int .i64 p, .int .i64 slo, .int .i64 shi, .int .i64 dlo, .int .i64 dhi, .bool al] := hV 9 _ rfl
          have q10 : v10 = .pointer (some ⟨w.heap.size, 0, none⟩) := hV 10 _ rfl
          have q11 : v11 = .int .i64 ai := hV 11 _ rfl
          have q12 : v12 = .pointer (some ⟨w.heap.size, 1, none⟩) := hV 12 _ rfl
          have q13 : v13 = .int .i64 ao := hV 13 _ rfl
          have q14 : v14 = .pointer (some ⟨w.heap.size, 2, none⟩) := hV 14 _ rfl
          have q15 : v15 = .agg #[.int .u32 as_, .int .u32 ad, .int .i64 ap, .int .i64 asp, .int .i64 adp] := hV 15 _ rfl
          have q16 : v16 = .bool m50 := hV 16 _ rfl
          have q17 : v17 = .bool m51 := hV 17 _ rfl
          have hbel : Below w3.heap.size w3 w4 := hS
          subst q0 q1 q2 q3 q4 q5 q6 q7 q8 q9 q10 q11 q12 q13 q14 q15 q16 q17
          clear hV hS hlen hall
          clear listed
          simp only [lays, Act.put, List.setIfInBounds_toArray, List.set_cons_zero, List.set_cons_succ]
          have h51 : m51 = false := by rw [← hm51.out, ← hm50.out, ← hm39.out]; simp
          have hb4 := hb3.trans (hbel.mono hb3.size)
          have hbw4 := hbw3.trans (hbel.mono hbw3.size)
          clear hm39 hm50 hm51 hbel hb3 hbw3 LR3 LA3 C39 C50
          subst h51
          go_wp2
          go_roundw
          case rel => exact ⟨k + 1, m33, by omega, by go_num, rfl, HRt2, hb4, hbw4⟩
          case measure => simp [intOf]; omega
    · obtain rfl : k = l.length := by omega
      have hge : ¬ (l.length : Int) < (l.length : Int) := by omega
      have hall : l.all Ru.ok = rt := by
        cases hrt : rt
        · rw [Bool.eq_false_iff]
          intro h
          have : rt = true := HRt.out.2 (fun j hj => List.all_eq_true.1 h _ (ru_mem l j hj))
          rw [hrt] at this
          cases this
        · exact allOk_yes (HRt.out.1 hrt)
      rw [hall] at HRI
      have LA := Lib.hid (LA1.out.below hb)
      clear hall HRt
      rcases HCase.out with ⟨hfi, _⟩ | ⟨k, hfi, hkl, _, _⟩
      · subst hfi
        have haw : aw = false := HAlw.out.trans (by simp)
        subst haw
        clear HCase HAlw
        have f0 := LA.out.at0 0 0 _ rfl (Nat.zero_add _)
        have f1 := LA.out.at0 1 1 _ rfl (Nat.zero_add _)
        have f2 := LA.out.at0 2 2 _ rfl (Nat.zero_add _)
        have f3 := LA.out.at0 3 3 _ rfl (Nat.zero_add _)
        have f4 := LA.out.at0 4 4 _ rfl (Nat.zero_add _)
        have f5 := LA.out.at0 5 5 _ rfl (Nat.zero_add _)
        have f6 := LA.out.at0 6 6 _ rfl (Nat.zero_add _)
        go_wp2_with fail
        refine (HFI.out _ hbw).mono ?_
        rintro e w2 ⟨rfl, hb2⟩
        have hbw2 := hbw.trans (hb2.mono hbw.size)
        have LA := Lib.hid (LA.out.below hb2)
        clear f0 f1 f2 f3 f4 f5 f6 hb2 hbw
        have f0 := LA.out.at0 0 0 _ rfl (Nat.zero_add _)
        have f1 := LA.out.at0 1 1 _ rfl (Nat.zero_add _)
        have f2 := LA.out.at0 2 2 _ rfl (Nat.zero_add _)
        have f3 := LA.out.at0 3 3 _ rfl (Nat.zero_add _)
        have f4 := LA.out.at0 4 4 _ rfl (Nat.zero_add _)
        have f5 := LA.out.at0 5 5 _ rfl (Nat.zero_add _)
        have f6 := LA.out.at0 6 6 _ rfl (Nat.zero_add _)
        go_wp2_with fail
        refine (HAL.out _ hbw2).mono ?_
        rintro e w3 ⟨rfl, hb3⟩
        have hbw3 := hbw2.trans (hb3.mono hbw2.size)
        clear f0 f1 f2 f3 f4 f5 f6 hb3 hbw2
        go_wp2_with fail
        refine (HRI.out _ hbw3).mono ?_
        rintro e w4 ⟨rfl, hb4⟩
        have hbw4 := hbw3.trans (hb4.mono hbw3.size)
        have hrr : (rt == rt) = true := by cases rt <;> rfl
        clear hb4 hbw3
        go_wp2_with fail
        refine (rule_awake _).mono ?_
        rintro e w5 ⟨rfl, hb5⟩
        have hbw5 := hbw4.trans (hb5.mono hbw4.size)
        go_wp2
        go_ret
        exact ⟨rfl, hbw5⟩
      · subst hfi
        have haw : aw = (ru l k).al := HAlw.out.trans (by simp)
        have hkl2 : (k : Int) < (l.length : Int) := by omega
        obtain ⟨b, off, rfl, hbl, hL⟩ := (HR.out.below hbw).at k _ (ru_get l k hkl)
        have LR := Lib.hid hL
        clear HCase HAlw hL
        generalize ru l k = r at *
        obtain ⟨i, o, sa, sb, da, db, p, slo, shi, dlo, dhi, al⟩ := r
        have haw : aw = al := haw
        subst haw
        simp only [Ru.v] at LR
        have f0 := LA.out.at0 0 0 _ rfl (Nat.zero_add _)
        have f1 := LA.out.at0 1 1 _ rfl (Nat.zero_add _)
        have f2 := LA.out.at0 2 2 _ rfl (Nat.zero_add _)
        have f3 := LA.out.at0 3 3 _ rfl (Nat.zero_add _)
        have f4 := LA.out.at0 4 4 _ rfl (Nat.zero_add _)
        have f5 := LA.out.at0 5 5 _ rfl (Nat.zero_add _)
        have f6 := LA.out.at0 6 6 _ rfl (Nat.zero_add _)
        go_wp2_with fail
        refine (HFI.out _ hbw).mono ?_
        rintro e w2 ⟨rfl, hb2⟩
        have hbw2 := hbw.trans (hb2.mono hbw.size)
        have LA := Lib.hid (LA.out.below hb2)
        have LR := Lib.hid (LR.out.below hb2)
        clear f0 f1 f2 f3 f4 f5 f6 hb2 hbw
        have f0 := LA.out.at0 0 0 _ rfl (Nat.zero_add _)
        have f1 := LA.out.at0 1 1 _ rfl (Nat.zero_add _)
        have f2 := LA.out.at0 2 2 _ rfl (Nat.zero_add _)
        have f3 := LA.out.at0 3 3 _ rfl (Nat.zero_add _)
        have f4 := LA.out.at0 4 4 _ rfl (Nat.zero_add _)
        have f5 := LA.out.at0 5 5 _ rfl (Nat.zero_add _)
        have f6 := LA.out.at0 6 6 _ rfl (Nat.zero_add _)
        go_wp2_with fail
        refine (HAL.out _ hbw2).mono ?_
        rintro e w3 ⟨rfl, hb3⟩
        have hbw3 := hbw2.trans (hb3.mono hbw2.size)
        have c11 := (LR.out.below hb3).at0 11 _ _ rfl rfl
        have haa : (aw == aw) = true := by cases aw <;> rfl
        clear f0 f1 f2 f3 f4 f5 f6 hb3 hbw2
        go_wp2_with fail
        refine (HRI.out _ hbw3).mono ?_
        rintro e w4 ⟨rfl, hb4⟩
        have hbw4 := hbw3.trans (hb4.mono hbw3.size)
        have hrr : (rt == rt) = true := by cases rt <;> rfl
        clear hb4 hbw3 c11
        go_wp2_with fail
        refine (rule_awake _).mono ?_
        rintro e w5 ⟨rfl, hb5⟩
        have hbw5 := hbw4.trans (hb5.mono hbw4.size)
        go_wp2
        go_ret
        exact ⟨rfl, hbw5⟩
#print axioms rfirst_law
end Go.Proofs.Ytagfcfkkjllfpaa
