/- RuleShadows, walked whole. -/
import Derived.Test.YtagfcfkkjllfpaaRuShad
import Derived.Test.YtagfcfkkjllfpaaRuRef3
namespace Go.Proofs.Ytagfcfkkjllfpaa
open Go.RowKit
set_option maxRecDepth 100000
set_option linter.unusedVariables false
open U

namespace U
theorem shadTo_len_le (l : List Ru) (j k : Nat) (h : j ≤ k) : (shadTo l j).length ≤ (shadTo l k).length := by
  induction k with
  | zero => obtain rfl : j = 0 := by omega
            exact Nat.le_refl _
  | succ k ih =>
    by_cases e : j = k + 1
    · subst e; exact Nat.le_refl _
    · have := ih (by omega)
      rw [shadTo_succ, List.length_append]
      omega
theorem shadTo_pre (l : List Ru) (j k i : Nat) (h : j ≤ k) (hi : i < (shadTo l j).length) : (shadTo l k).getD i 0 = (shadTo l j).getD i 0 := by
  induction k with
  | zero => obtain rfl : j = 0 := by omega
            rfl
  | succ k ih =>
    by_cases e : j = k + 1
    · subst e; rfl
    · rw [← ih (by omega), shadTo_succ]
      have := shadTo_len_le l j k (by omega)
      rw [List.getD_eq_getElem?_getD, List.getD_eq_getElem?_getD, List.getElem?_append_left (by omega)]
/-- Where a covered rule's place stands among those told. -/
theorem shad_at (l : List Ru) (k : Nat) (hk : k < l.length) (h : covd l k = true) : (shadTo l k).length < (shadTo l l.length).length ∧ (shadTo l l.length).getD (shadTo l k).length 0 = k := by
  have h1 := shadTo_succ l k
  rw [if_pos h] at h1
  have h2 := shadTo_len_le l (k + 1) l.length (by omega)
  have h3 : (shadTo l (k + 1)).length = (shadTo l k).length + 1 := by rw [h1]; simp
  refine ⟨by omega, ?_⟩
  rw [shadTo_pre l (k + 1) l.length _ (by omega) (by omega), h1, List.getD_eq_getElem?_getD, List.getElem?_append_right (Nat.le_refl _)]
  simp
/-- A covered rule never decides. -/
theorem shad_ne (l : List Ru) (a : Ask) (k : Nat) (hk : k < l.length) (h : covd l k = true) : Rfirst l a ≠ (k : Int) := by
  intro e
  unfold covd at h
  obtain ⟨j, hj, hc⟩ := List.any_eq_true.1 h
  have hjk := List.mem_range.1 hj
  rcases first_cases (fun k => (ru l k).m a) l.length with ⟨h1, _⟩ | ⟨q, h1, h2, h3, h4⟩
  · have : Rfirst l a = -1 := h1
    omega
  · have h5 : Rfirst l a = (q : Int) := h1
    obtain rfl : q = k := by omega
    have h6 := h3 j hjk
    have h7 : (ru l j).m a = true := cov_m hc h4
    have h6' : (ru l j).m a = false := h6
    rw [h7] at h6'
    cases h6'
end U

-- REGIONS
theorem vs_12 (vs : List Value) (h : vs.length = 12) : ∃ v0 v1 v2 v3 v4 v5 v6 v7 v8 v9 v10 v11, vs = [v0, v1, v2, v3, v4, v5, v6, v7, v8, v9, v10, v11] := by
  obtain ⟨v0, r0, rfl, h0⟩ := vs_cons vs h
  obtain ⟨v1, r1, rfl, h1⟩ := vs_cons r0 h0
  obtain ⟨v2, r2, rfl, h2⟩ := vs_cons r1 h1
  obtain ⟨v3, r3, rfl, h3⟩ := vs_cons r2 h2
  obtain ⟨v4, r4, rfl, h4⟩ := vs_cons r3 h3
  obtain ⟨v5, r5, rfl, h5⟩ := vs_cons r4 h4
  obtain ⟨v6, r6, rfl, h6⟩ := vs_cons r5 h5
  obtain ⟨v7, r7, rfl, h7⟩ := vs_cons r6 h6
  obtain ⟨v8, r8, rfl, h8⟩ := vs_cons r7 h7
  obtain ⟨v9, r9, rfl, h9⟩ := vs_cons r8 h8
  obtain ⟨v10, r10, rfl, h10⟩ := vs_cons r9 h9
  obtain ⟨v11, r11, rfl, h11⟩ := vs_cons r10 h10
  obtain rfl := List.eq_nil_of_length_eq_zero h11
  exact ⟨v0, v1, v2, v3, v4, v5, v6, v7, v8, v9, v10, v11, rfl⟩

set_option maxHeartbeats 16000000 in
theorem rshad_law (a0 : Option Addr) (cap : Nat) (l : List Ru) (a : U.Ask) (w : World) (h : RRow w a0 l) (hf : Fine l) (ha : a.fine) (hcap : l.length ≤ cap) :
    Calls Try.prog 5 #[.slice a0 l.length cap, .agg a.v.toArray] w fun e w' => e = .returned (.bool true) ∧ Below w.heap.size w w' := by
  have hb0 := below1 w (.cells a.v.toArray 27)
  by_cases h40 : 40 < l.length
  · have h40' : (40 : Int) < (l.length : Int) := by omega
    obtain ⟨ai, ao, as_, ad, ap, asp, adp⟩ := a
    simp only [Ask.v] at *
    go_enter Try.func5, Try.ntmps5
    go_wp2_with fail
    refine (rule_awake _).mono ?_
    rintro e w1 ⟨rfl, hb1⟩
    have hbw := hb0.trans (hb1.mono hb0.size)
    go_wp2
    go_ret
    exact ⟨rfl, hbw⟩
  have h40' : ¬ (40 : Int) < (l.length : Int) := by omega
  have hl : l.length ≤ 1000000 := by omega
  have hl40 : l.length ≤ 40 := by omega
  have HR := Lib.hid h
  have HF := Lib.hid hf
  have HFI := Lib.hid (fun w' (hb : Below w.heap.size w w') => First_any a0 cap l a w' (h.below hb) hf ha hl)
  have HSh := Lib.hid (fun w' (hb : Below w.heap.size w w') => Shad_any a0 cap l w' (h.below hb) hf hl hcap)
  have HAt := Lib.hid (shad_at l)
  have HNe := Lib.hid (shad_ne l a)
  have HSt := Lib.hid (shadTo_succ l)
  have HLe := Lib.hid (shadTo_le l)
  have HLL := Lib.hid (shadTo_len_le l)
  have HYes := Lib.hid (fun j k (hj : j < k) => covd_yes (l := l) hj)
  have HNo := Lib.hid (fun k => covd_no (l := l) (k := k))
  clear h hf hl h40
  obtain ⟨ai, ao, as_, ad, ap, asp, adp⟩ := a
  clear ha
  simp only [Ask.v] at *
  have H0 := Lib.hid (show shadTo l 0 = [] from rfl)
  generalize Rfirst l ⟨ai, ao, as_, ad, ap, asp, adp⟩ = fi at *
  generalize hsh : shadTo l = sh at *
  clear hsh
  have LA0 := Lib.hid (Lies.new w [.int .i64 ai, .int .i64 ao, .int .u32 as_, .int .u32 ad, .int .i64 ap, .int .i64 asp, .int .i64 adp] 27)
  go_enter Try.func5, Try.ntmps5
  go_wp2_with fail
  refine (HSh.out _ hb0).mono ?_
  rintro e w1 ⟨ao1, cp1, rfl, hown, hb1⟩
  have hbw1 := hb0.trans (hb1.mono hb0.size)
  have LA1 := Lib.hid (LA0.out.below hb1)
  have HO1 := Lib.hid hown
  clear HSh hb1 LA0 hown
  have f0 := LA1.out.at0 0 0 _ rfl (Nat.zero_add _)
  have f1 := LA1.out.at0 1 1 _ rfl (Nat.zero_add _)
  have f2 := LA1.out.at0 2 2 _ rfl (Nat.zero_add _)
  have f3 := LA1.out.at0 3 3 _ rfl (Nat.zero_add _)
  have f4 := LA1.out.at0 4 4 _ rfl (Nat.zero_add _)
  have f5 := LA1.out.at0 5 5 _ rfl (Nat.zero_add _)
  have f6 := LA1.out.at0 6 6 _ rfl (Nat.zero_add _)
  go_wp2_with fail
  refine (HFI.out _ hbw1).mono ?_
  rintro e w2 ⟨rfl, hb2⟩
  have hbw2 := hbw1.trans (hb2.mono hbw1.size)
  have HO2 := Lib.hid (Own.carry HO1.out hb2)
  clear HFI hb2 LA1 hb0 HO1 f0 f1 f2 f3 f4 f5 f6 hbw1
  obtain ⟨n, hn⟩ : ∃ n, (sh l.length).length = n := ⟨_, rfl⟩
  have Hn := Lib.hid hn
  rw [hn] at HO2
  rw [hn]
  clear hn
  go_wp2
  go_loopw [7, 8] (fun q i wr => ∃ (k m : Nat), k ≤ l.length ∧ i = .int .i64 k ∧ q = .int .i64 m ∧ Hid (m = (sh k).length) ∧ Below w2.heap.size w2 wr ∧ Below w.heap.size w wr) (fun _ i _ => l.length - (intOf i).toNat)
  case atStart => exact ⟨0, 0, Nat.zero_le _, rfl, rfl, Lib.hid (by rw [H0.out]; rfl), Below.refl _ _, hbw2⟩
  case round =>
    obtain ⟨k, m, hk, rfl, rfl, HM, hb, hbw⟩ := hrel
    by_cases hkl : k < l.length
    · have hkl2 : (k : Int) < (l.length : Int) := by omega
      obtain ⟨b, off, rfl, hbl, hL⟩ := (HR.out.below hbw).at k _ (ru_get l k hkl)
      have hfin2 := HF.out _ (ru_mem l k hkl)
      have LS0 := Lib.hid hL
      have HYk := Lib.hid (fun j => HYes.out j k)
      have HNk := Lib.hid (HNo.out k)
      have HStk := Lib.hid (HSt.out k)
      have HAk := Lib.hid (HAt.out k hkl)
      have HNek := Lib.hid (HNe.out k hkl)
      generalize hck : (fun j => cov (ru l j) (ru l k)) = ck at *
      have hck' : ∀ j, cov (ru l j) (ru l k) = ck j := fun j => congrFun hck j
      have HCk := Lib.hid hck'
      simp only [hck'] at HYk HNk
      clear hck hck' hL
      generalize covd l k = cvd at *
      generalize ru l k = r2 at *
      obtain ⟨i2, o2, sa2, sb2, da2, db2, p2, slo2, shi2, dlo2, dhi2, al2⟩ := r2
      have Hsa2 := Lib.hid hfin2.1
      have Hda2 := Lib.hid hfin2.2
      simp only [Ru.v] at LS0
      clear hfin2
      go_wp2
      generalize wr = wo at *
      go_loopw [9, 10] (fun c i wr => ∃ (j : Nat) (cv : Bool), j ≤ k ∧ i = .int .i64 j ∧ c = .bool cv ∧ Hid (cv = true ↔ ∃ q, q < j ∧ ck q = true) ∧ Below w2.heap.size w2 wr ∧ Below wo.heap.size wo wr ∧ Below w.heap.size w wr) (fun _ i _ => k - (intOf i).toNat)
      case atStart => exact ⟨0, false, Nat.zero_le _, rfl, rfl, Lib.hid ⟨fun h => by simp at h, fun ⟨q, hq, _⟩ => by omega⟩, hb, Below.refl _ _, hbw⟩
      case round =>
        clear hb hbw
        obtain ⟨j, cv, hj, rfl, rfl, HJ, hb, hbo, hbw⟩ := hrel
        by_cases hjk : j < k
        · have hjk2 : (j : Int) < (k : Int) := by omega
          have hjl : j < l.length := by omega
          have hjl2 : (j : Int) < (l.length : Int) := by omega
          obtain ⟨b', off', hbo', _, hL⟩ := (HR.out.below hbw).at j _ (ru_get l j hjl)
          obtain ⟨rfl, rfl⟩ : b = b' ∧ off = off' := by simpa using hbo'
          have hfin := HF.out _ (ru_mem l j hjl)
          have LS := Lib.hid (LS0.out.below hbo)
          have LR := Lib.hid hL
          have HCj := Lib.hid (HCk.out j)
          have HJ2 : Hid ((cv || ck j) = true ↔ ∃ q, q < j + 1 ∧ ck q = true) := Lib.hid (by
            rw [Bool.or_eq_true, HJ.out]
            constructor
            · rintro (⟨q, h1, h2⟩ | h)
              · exact ⟨q, by omega, h2⟩
              · exact ⟨j, by omega, h⟩
            · rintro ⟨q, h1, h2⟩
              by_cases e : q = j
              · subst e; exact .inr h2
              · exact .inl ⟨q, by omega, h2⟩)
          generalize ck j = x at *
          generalize ru l j = r at *
          obtain ⟨i, o, sa, sb, da, db, p, slo, shi, dlo, dhi, al⟩ := r
          have Hsa := Lib.hid hfin.1
          have Hda := Lib.hid hfin.2
          simp only [Ru.v] at LR
          clear hfin hL hbo' HJ
          go_wp2
          obtain ⟨m41, hm41⟩ : ∃ x, (cov ⟨i, o, sa, sb, da, db, p, slo, shi, dlo, dhi, al⟩ ⟨i2, o2, sa2, sb2, da2, db2, p2, slo2, shi2, dlo2, dhi2, al2⟩) = x := ⟨_, rfl⟩
          replace hm41 := Lib.hid hm41
          have C41 := Lib.hid (fun (w' : World) (hb : Below wr.heap.size wr w') => show Calls Try.prog 19 #[.agg #[.int .i64 i, .int .i64 o, .int .u32 sa, .int .i64 sb, .int .u32 da, .int .i64 db, .int .i64 p, .int .i64 slo, .int .i64 shi, .int .i64 dlo, .int .i64 dhi, .bool al], .agg #[.int .i64 i2, .int .i64 o2, .int .u32 sa2, .int .i64 sb2, .int .u32 da2, .int .i64 db2, .int .i64 p2, .int .i64 slo2, .int .i64 shi2, .int .i64 dlo2, .int .i64 dhi2, .bool al2]] w' (fun e w'' => e = .returned (.bool m41) ∧ Below w'.heap.size w' w'') from (by rw [← hm41.out]; exact refcov_any ⟨i, o, sa, sb, da, db, p, slo, shi, dlo, dhi, al⟩ ⟨i2, o2, sa2, sb2, da2, db2, p2, slo2, shi2, dlo2, dhi2, al2⟩ w' ⟨Hsa.out, Hda.out⟩ ⟨Hsa2.out, Hda2.out⟩))
          obtain ⟨m42, hm42⟩ : ∃ x, (cv || m41) = x := ⟨_, rfl⟩
          replace hm42 := Lib.hid hm42
          refine region_gen_tail 12 (VG wr.heap.size [.val (.bool cv), .val (.bool cv), .val (if cv = false then .slice (some ⟨b, off, none⟩) l.length cap else undef), .val (if cv = false then .int .i64 j else undef), .val (if cv = false then .pointer (some ⟨b, off + j * 12, none⟩) else undef), .val (if cv = false then .agg #[.int .i64 i, .int .i64 o, .int .u32 sa, .int .i64 sb, .int .u32 da, .int .i64 db, .int .i64 p, .int .i64 slo, .int .i64 shi, .int .i64 dlo, .int .i64 dhi, .bool al] else undef), .val (if cv = false then .slice (some ⟨b, off, none⟩) l.length cap else undef), .val (if cv = false then .int .i64 k else undef), .val (if cv = false then .pointer (some ⟨b, off + k * 12, none⟩) else undef), .val (if cv = false then .agg #[.int .i64 i2, .int .i64 o2, .int .u32 sa2, .int .i64 sb2, .int .u32 da2, .int .i64 db2, .int .i64 p2, .int .i64 slo2, .int .i64 shi2, .int .i64 dlo2, .int .i64 dhi2, .bool al2] else undef), .val (if cv = false then .bool m41 else undef), .val (.bool m42)]) (BS wr) (by kernel_rfl) (by kernel_rfl) (by kernel_rfl) (Below.refl _ _).drew ⟨?_, ?_, ?_, ?_, ?_, ?_, ?_, ?_, ?_, ?_, ?_, ?_, trivial⟩ ?_
          · go_light; intro listed a' w' hs hS hun hdep
            have n9 := hs.lat 0 12 hun _ rfl .phase (by simp) rfl
            have e9 : a'.eval (.tmp 9) = .bool cv := (hs.yet 9 12 (by kernel_rfl) n9).trans (rfl)
            exact g_val (.bool cv) hS rfl (op_move rfl e9) rfl
          · go_light; intro listed a' w' hs hS hun hdep
            have e31 : a'.eval (.tmp 31) = (.bool cv) := hs.eval 0 _ 31 rfl (hdep ⟨0, .data⟩ (by simp) rfl) rfl
            exact g_val (.bool cv) hS rfl (op_move rfl e31) rfl
          · go_light; intro listed a' w' hs hS hun hdep
            have eg : a'.eval (.tmp 32) = (.bool cv) := hs.eval 1 _ 32 rfl (hdep ⟨1, .guard⟩ (by simp) rfl) rfl
            have e0 : a'.eval (.tmp 0) = .slice (some ⟨b, off, none⟩) l.length cap := (hs.out 0 (by kernel_rfl)).trans (rfl)
            cases cv
            · exact g_val (.slice (some ⟨b, off, none⟩) l.length cap) hS (wanted_yes rfl rfl rfl eg) (op_move rfl e0) rfl
            · exact g_not hS (wanted_no rfl rfl rfl eg (by decide)) rfl
          · go_light; intro listed a' w' hs hS hun hdep
            have eg : a'.eval (.tmp 32) = (.bool cv) := hs.eval 1 _ 32 rfl (hdep ⟨1, .guard⟩ (by simp) rfl) rfl
            have e10 : a'.eval (.tmp 10) = .int .i64 j := (hs.out 10 (by kernel_rfl)).trans (rfl)
            cases cv
            · exact g_val (.int .i64 j) hS (wanted_yes rfl rfl rfl eg) (op_move rfl e10) rfl
            · exact g_not hS (wanted_no rfl rfl rfl eg (by decide)) rfl
          · go_light; intro listed a' w' hs hS hun hdep
            have eg : a'.eval (.tmp 32) = (.bool cv) := hs.eval 1 _ 32 rfl (hdep ⟨1, .guard⟩ (by simp) rfl) rfl
            have e33 : a'.eval (.tmp 33) = (if cv = false then .slice (some ⟨b, off, none⟩) l.length cap else undef) := hs.eval 2 _ 33 rfl (hdep ⟨2, .data⟩ (by simp) rfl) rfl
            have e34 : a'.eval (.tmp 34) = (if cv = false then .int .i64 j else undef) := hs.eval 3 _ 34 rfl (hdep ⟨3, .data⟩ (by simp) rfl) rfl
            cases cv
            · replace e33 := e33.trans (if_pos rfl)
              replace e34 := e34.trans (if_pos rfl)
              exact g_val (.pointer (some ⟨b, off + j * 12, none⟩)) hS (wanted_yes rfl rfl rfl eg) (op_ixa rfl e33 e34 Try.underlying22 (by kernel_rfl) hjl) rfl
            · exact g_not hS (wanted_no rfl rfl rfl eg (by decide)) rfl
          · go_light; intro listed a' w' hs hS hun hdep
            have eg : a'.eval (.tmp 32) = (.bool cv) := hs.eval 1 _ 32 rfl (hdep ⟨1, .guard⟩ (by simp) rfl) rfl
            have e35 : a'.eval (.tmp 35) = (if cv = false then .pointer (some ⟨b, off + j * 12, none⟩) else undef) := hs.eval 4 _ 35 rfl (hdep ⟨4, .data⟩ (by simp) rfl) rfl
            cases cv
            · replace e35 := e35.trans (if_pos rfl)
              exact g_val (.agg #[.int .i64 i, .int .i64 o, .int .u32 sa, .int .i64 sb, .int .u32 da, .int .i64 db, .int .i64 p, .int .i64 slo, .int .i64 shi, .int .i64 dlo, .int .i64 dhi, .bool al]) hS (wanted_yes rfl rfl rfl eg) (op_ld [.int .i64 i, .int .i64 o, .int .u32 sa, .int .i64 sb, .int .u32 da, .int .i64 db, .int .i64 p, .int .i64 slo, .int .i64 shi, .int .i64 dlo, .int .i64 dhi, .bool al] rfl e35 (LR.out.below hS) 0 (by first | rfl | simp) rfl Try.underlying34 rfl (by kernel_rfl)) rfl
            · exact g_not hS (wanted_no rfl rfl rfl eg (by decide)) rfl
          · go_light; intro listed a' w' hs hS hun hdep
            have eg : a'.eval (.tmp 32) = (.bool cv) := hs.eval 1 _ 32 rfl (hdep ⟨1, .guard⟩ (by simp) rfl) rfl
            have e0 : a'.eval (.tmp 0) = .slice (some ⟨b, off, none⟩) l.length cap := (hs.out 0 (by kernel_rfl)).trans (rfl)
            cases cv
            · exact g_val (.slice (some ⟨b, off, none⟩) l.length cap) hS (wanted_yes rfl rfl rfl eg) (op_move rfl e0) rfl
            · exact g_not hS (wanted_no rfl rfl rfl eg (by decide)) rfl
          · go_light; intro listed a' w' hs hS hun hdep
            have eg : a'.eval (.tmp 32) = (.bool cv) := hs.eval 1 _ 32 rfl (hdep ⟨1, .guard⟩ (by simp) rfl) rfl
            have e8 : a'.eval (.tmp 8) = .int .i64 k := (hs.out 8 (by kernel_rfl)).trans (rfl)
            cases cv
            · exact g_val (.int .i64 k) hS (wanted_yes rfl rfl rfl eg) (op_move rfl e8) rfl
            · exact g_not hS (wanted_no rfl rfl rfl eg (by decide)) rfl
          · go_light; intro listed a' w' hs hS hun hdep
            have eg : a'.eval (.tmp 32) = (.bool cv) := hs.eval 1 _ 32 rfl (hdep ⟨1, .guard⟩ (by simp) rfl) rfl
            have e37 : a'.eval (.tmp 37) = (if cv = false then .slice (some ⟨b, off, none⟩) l.length cap else undef) := hs.eval 6 _ 37 rfl (hdep ⟨6, .data⟩ (by simp) rfl) rfl
            have e38 : a'.eval (.tmp 38) = (if cv = false then .int .i64 k else undef) := hs.eval 7 _ 38 rfl (hdep ⟨7, .data⟩ (by simp) rfl) rfl
            cases cv
            · replace e37 := e37.trans (if_pos rfl)
              replace e38 := e38.trans (if_pos rfl)
              exact g_val (.pointer (some ⟨b, off + k * 12, none⟩)) hS (wanted_yes rfl rfl rfl eg) (op_ixa rfl e37 e38 Try.underlying22 (by kernel_rfl) hkl) rfl
            · exact g_not hS (wanted_no rfl rfl rfl eg (by decide)) rfl
          · go_light; intro listed a' w' hs hS hun hdep
            have eg : a'.eval (.tmp 32) = (.bool cv) := hs.eval 1 _ 32 rfl (hdep ⟨1, .guard⟩ (by simp) rfl) rfl
            have e39 : a'.eval (.tmp 39) = (if cv = false then .pointer (some ⟨b, off + k * 12, none⟩) else undef) := hs.eval 8 _ 39 rfl (hdep ⟨8, .data⟩ (by simp) rfl) rfl
            cases cv
            · replace e39 := e39.trans (if_pos rfl)
              exact g_val (.agg #[.int .i64 i2, .int .i64 o2, .int .u32 sa2, .int .i64 sb2, .int .u32 da2, .int .i64 db2, .int .i64 p2, .int .i64 slo2, .int .i64 shi2, .int .i64 dlo2, .int .i64 dhi2, .bool al2]) hS (wanted_yes rfl rfl rfl eg) (op_ld [.int .i64 i2, .int .i64 o2, .int .u32 sa2, .int .i64 sb2, .int .u32 da2, .int .i64 db2, .int .i64 p2, .int .i64 slo2, .int .i64 shi2, .int .i64 dlo2, .int .i64 dhi2, .bool al2] rfl e39 (LS.out.below hS) 0 (by first | rfl | simp) rfl Try.underlying34 rfl (by kernel_rfl)) rfl
            · exact g_not hS (wanted_no rfl rfl rfl eg (by decide)) rfl
          · go_light; intro listed a' w' hs hS hun hdep
            have eg : a'.eval (.tmp 32) = (.bool cv) := hs.eval 1 _ 32 rfl (hdep ⟨1, .guard⟩ (by simp) rfl) rfl
            have e36 : a'.eval (.tmp 36) = (if cv = false then .agg #[.int .i64 i, .int .i64 o, .int .u32 sa, .int .i64 sb, .int .u32 da, .int .i64 db, .int .i64 p, .int .i64 slo, .int .i64 shi, .int .i64 dlo, .int .i64 dhi, .bool al] else undef) := hs.eval 5 _ 36 rfl (hdep ⟨5, .data⟩ (by simp) rfl) rfl
            have e40 : a'.eval (.tmp 40) = (if cv = false then .agg #[.int .i64 i2, .int .i64 o2, .int .u32 sa2, .int .i64 sb2, .int .u32 da2, .int .i64 db2, .int .i64 p2, .int .i64 slo2, .int .i64 shi2, .int .i64 dlo2, .int .i64 dhi2, .bool al2] else undef) := hs.eval 9 _ 40 rfl (hdep ⟨9, .data⟩ (by simp) rfl) rfl
            cases cv
            · replace e36 := e36.trans (if_pos rfl)
              replace e40 := e40.trans (if_pos rfl)
              refine g_call 19 #[.agg #[.int .i64 i, .int .i64 o, .int .u32 sa, .int .i64 sb, .int .u32 da, .int .i64 db, .int .i64 p, .int .i64 slo, .int .i64 shi, .int .i64 dlo, .int .i64 dhi, .bool al], .agg #[.int .i64 i2, .int .i64 o2, .int .u32 sa2, .int .i64 sb2, .int .u32 da2, .int .i64 db2, .int .i64 p2, .int .i64 slo2, .int .i64 shi2, .int .i64 dlo2, .int .i64 dhi2, .bool al2]] hS (wanted_yes rfl rfl rfl eg) ?_ ?_
              · have hcn := BigFrame.eval_const a'; have hfn := BigFrame.eval_func a'; clear hs hdep; generalize a'.eval = ev at *; go_simp
              · exact c_val (C41.out w' hS) rfl
            · exact g_not hS (wanted_no rfl rfl rfl eg (by decide)) rfl
          · go_light; intro listed a' w' hs hS hun hdep
            have e32 : a'.eval (.tmp 32) = (.bool cv) := hs.eval 1 _ 32 rfl (hdep ⟨1, .data⟩ (by simp) rfl) rfl
            have e41 : a'.eval (.tmp 41) = (if cv = false then .bool m41 else undef) := hs.eval 10 _ 41 rfl (hdep ⟨10, .data⟩ (by simp) rfl) rfl
            refine g_val (.bool m42) hS rfl ?_ rfl
            cases cv
            · replace e41 := e41.trans (if_pos rfl)
              exact (op_pick_f rfl e32 e41).trans (by rw [← hm42.out]; first | rfl | simp)
            · replace e41 := e41.trans (if_neg (by decide))
              exact (op_pick_t rfl e32 (BigFrame.eval_const a' _)).trans (by rw [← hm42.out]; first | rfl | simp)
          · intro vs w3 hlen hV hS
            obtain ⟨v0, v1, v2, v3, v4, v5, v6, v7, v8, v9, v10, v11, rfl⟩ := vs_12 vs (hlen.trans rfl)
            have q0 : v0 = .bool cv := hV 0 _ rfl
            have q1 : v1 = .bool cv := hV 1 _ rfl
            have q11 : v11 = .bool m42 := hV 11 _ rfl
            have hbel : Below wr.heap.size wr w3 := hS
            subst q0 q1 q11
            clear hV hS hlen
            simp only [lays, Act.put, List.setIfInBounds_toArray, List.set_cons_zero, List.set_cons_succ, List.drop_succ_cons, List.drop_zero, List.take_succ_cons, List.take_zero]
            have h41 := hm41.out
            rw [HCj.out] at h41
            subst h41
            have hm := hm42.out
            have hb3 := hb.trans (hbel.mono hb.size)
            have hbo3 := hbo.trans (hbel.mono hbo.size)
            have hbw3 := hbw.trans (hbel.mono hbw.size)
            rw [hm] at HJ2
            clear hbel hb hbo hbw hm hm41 hm42 C41 LR LS HCj
            go_wp2
            go_roundw
            case rel => exact ⟨j + 1, m42, by omega, by go_num, rfl, HJ2, hb3, hbo3, hbw3⟩
            case measure => simp [intOf]; omega
        · obtain rfl : j = k := by omega
          have hge : ¬ (j : Int) < (j : Int) := by omega
          have hcv : cvd = cv := by
            cases hx : cv
            · refine HNk.out fun q hq => ?_
              cases hy : ck q
              · rfl
              · have := HJ.out.2 ⟨q, hq, hy⟩
                rw [hx] at this
                cases this
            · obtain ⟨q, hq, hy⟩ := HJ.out.1 hx
              exact HYk.out q hq hy
          subst hcv
          clear HJ LS0 HYk HNk HCk hbo
          cases cvd
          · have HM2 : Hid (m = (sh (j + 1)).length) := Lib.hid (by rw [HStk.out, HM.out]; simp)
            go_wp2
            go_roundw
            case rel => exact ⟨j + 1, m, by omega, by go_num, rfl, HM2, hb, hbw⟩
            case measure => simp [intOf]; omega
          · obtain ⟨hlt, hat⟩ := HAk.out rfl
            have hmn : m < n := by rw [HM.out, ← Hn.out]; exact hlt
            have hne := HNek.out rfl
            have hne2 : (fi == (j : Int)) = false := by simpa using hne
            have hown := Own.carry HO2.out hb
            obtain ⟨g, cur, rfl, _, _, hgc⟩ := hown.at (by omega)
            have k0 : wr.cell? ⟨g, m, none⟩ = some (.int .i64 (j : Nat)) := hgc m _ (by rw [natsX_get _ _ (by rw [Hn.out]; exact hmn), HM.out, hat])
            have HM2 : Hid (m + 1 = (sh (j + 1)).length) := Lib.hid (by rw [HStk.out, HM.out]; simp)
            have hm40 : m ≤ 40 := by have h1 := HLe.out j; have h2 := HM.out; omega
            have hmn2 : (m : Int) < (n : Int) := by omega
            have hge2 : ¬ (n : Int) ≤ (m : Int) := by omega
            have hjj : ((j : Int) == (j : Int)) = true := by simp
            have hn40 : n ≤ 40 := by rw [← Hn.out]; have := HLe.out l.length; omega
            clear hgc hown hlt hat hne
            go_wp2
            go_roundw
            case rel => exact ⟨j + 1, m + 1, by omega, by go_num, by go_num, HM2, hb, hbw⟩
            case measure => simp [intOf]; omega
    · obtain rfl : k = l.length := by omega
      have hge : ¬ (l.length : Int) < (l.length : Int) := by omega
      have hmn : m = n := by rw [HM.out, Hn.out]
      subst hmn
      go_wp2_with fail
      refine (rule_awake _).mono ?_
      rintro e w3 ⟨rfl, hb3⟩
      have hbw3 := hbw.trans (hb3.mono hbw.size)
      go_wp2
      go_ret
      exact ⟨rfl, hbw3⟩
#print axioms rshad_law
end Go.Proofs.Ytagfcfkkjllfpaa
