/- Whether one rule matches, what is allowed; the document's first one; the example. -/
import Derived.Test.YtagfcfkkjllfpaaRuFirst
import Derived.Test.YtagfcfkkjllfpaaRuRef2
namespace Go.Proofs.Ytagfcfkkjllfpaa
open Go.RowKit
set_option maxRecDepth 100000
set_option linter.unusedVariables false
open U

namespace U
def Ask.fine (a : Ask) : Prop := a.s < 4294967296 ∧ a.d < 4294967296
theorem Rfirst_one (r : Ru) (a : Ask) : (Rfirst [r] a == 0) = r.m a := by
  rcases first_cases (fun k => (ru [r] k).m a) 1 with ⟨h1, h2⟩ | ⟨k, h1, h2, _, h4⟩
  · have h3 := h2 0 (by omega)
    unfold Rfirst
    show (first (fun k => (ru [r] k).m a) 1 == 0) = _
    rw [h1]
    exact h3.symm
  · obtain rfl : k = 0 := by omega
    unfold Rfirst
    show (first (fun k => (ru [r] k).m a) 1 == 0) = _
    rw [h1]
    exact h4.symm
/-- Whether it may pass. -/
def allows (l : List Ru) (a : Ask) : Bool := decide (0 ≤ Rfirst l a) && (ru l (Rfirst l a).toNat).al
end U

set_option maxHeartbeats 4000000 in
theorem Matches_any (r : Ru) (a : U.Ask) (w : World) (hr : r.fine) (ha : a.fine) : Calls Try.prog 13 #[.agg r.v.toArray, .agg a.v.toArray] w fun e w' => e = .returned (.bool (r.m a)) ∧ Below w.heap.size w w' := by
  have HF := Lib.hid (fun g w' (h : w'.heap[g]? = some (.cells r.v.toArray 34 (0, 0))) => First_any (some ⟨g, 0, none⟩) 1 [r] a w' (RowsOf.of_block (fun _ => rfl) (by simp) h) (fun x hx => by rw [List.mem_singleton.1 hx]; exact hr) ha (by simp))
  have HE := Lib.hid (Rfirst_one r a)
  have hb0 := (below2 w (.cells r.v.toArray 34) (.cells a.v.toArray 27)).alloc (by simp; omega) (.cells r.v.toArray 34)
  have HG : Hid ((((w.alloc (.cells r.v.toArray 34)).alloc (.cells a.v.toArray 27)).alloc (.cells r.v.toArray 34)).heap[w.heap.size + 1 + 1]? = some (.cells r.v.toArray 34 (0, 0))) := Lib.hid (by
    have := heap_alloc_new ((w.alloc (.cells r.v.toArray 34)).alloc (.cells a.v.toArray 27)) (.cells r.v.toArray 34)
    simpa using this)
  generalize hm : r.m a = mm at *
  generalize hq : Rfirst [r] a = q at *
  clear hm hq hr ha
  obtain ⟨i, o, sa, sb, da, db, p, slo, shi, dlo, dhi, al⟩ := r
  obtain ⟨ai, aos, as_, ad, ap, asp, adp⟩ := a
  simp only [Ru.v, Ask.v] at *
  go_enter Try.func13, Try.ntmps13
  go_wp2_with fail
  refine (HF.out _ _ HG.out).mono ?_
  rintro e w1 ⟨rfl, hb1⟩
  have hbw := hb0.trans (hb1.mono hb0.size)
  go_wp2
  go_ret
  exact ⟨by rw [← HE.out]; rfl, hbw⟩

set_option maxHeartbeats 4000000 in
theorem Allows_any (ao : Option Addr) (cap : Nat) (l : List Ru) (a : U.Ask) (w : World) (h : RRow w ao l) (hf : Fine l) (ha : a.fine) (hl : l.length ≤ 1000000) :
    Calls Try.prog 16 #[.slice ao l.length cap, .agg a.v.toArray] w fun e w' => e = .returned (.bool (allows l a)) ∧ Below w.heap.size w w' := by
  have hb0 := below1 w (.cells a.v.toArray 27)
  have HF := Lib.hid (fun w' (hb : Below w.heap.size w w') => First_any ao cap l a w' (h.below hb) hf ha hl)
  have HR := Lib.hid h
  rcases first_cases (fun k => (ru l k).m a) l.length with ⟨h1, h2⟩ | ⟨k, h1, h2, _, h4⟩
  · have h1' : Rfirst l a = -1 := h1
    have HE := Lib.hid (show allows l a = false by unfold allows; rw [h1']; rfl)
    rw [h1'] at HF
    clear h hf ha h1 h2 h1'
    obtain ⟨ai, aos, as_, ad, ap, asp, adp⟩ := a
    simp only [Ask.v] at *
    go_enter Try.func16, Try.ntmps16
    go_wp2_with fail
    refine (HF.out _ hb0).mono ?_
    rintro e w1 ⟨rfl, hb1⟩
    have hbw := hb0.trans (hb1.mono hb0.size)
    go_wp2
    go_ret
    exact ⟨by rw [HE.out]; rfl, hbw⟩
  · have h1' : Rfirst l a = (k : Int) := h1
    have HE := Lib.hid (show allows l a = (ru l k).al by unfold allows; rw [h1']; simp)
    rw [h1'] at HF
    obtain ⟨b, off, rfl, hbl, hL⟩ := h.at k _ (ru_get l k h2)
    have HL := Lib.hid hL
    have hkl : (k : Int) < (l.length : Int) := by omega
    clear h hf ha h1 h1' h4 hL HR
    obtain ⟨ai, aos, as_, ad, ap, asp, adp⟩ := a
    generalize ru l k = r at *
    obtain ⟨i, o, sa, sb, da, db, p, slo, shi, dlo, dhi, al⟩ := r
    simp only [Ask.v] at *
    go_enter Try.func16, Try.ntmps16
    go_wp2_with fail
    refine (HF.out _ hb0).mono ?_
    rintro e w1 ⟨rfl, hb1⟩
    have hbw := hb0.trans (hb1.mono hb0.size)
    have c11 := (HL.out.below hbw).at0 11 _ _ rfl rfl
    go_wp2
    go_ret
    exact ⟨by rw [HE.out]; rfl, hbw⟩

namespace U
def r0 : Ru := ⟨-1, -1, 167772160, 8, 0, 0, 6, 0, 65535, 80, 80, true⟩
theorem r0_fine : r0.fine := ⟨by decide, by decide⟩
theorem allows_one (r : Ru) (a : Ask) : allows [r] a = (r.m a && r.al) := by
  unfold allows
  have h := Rfirst_one r a
  rcases first_cases (fun k => (ru [r] k).m a) 1 with ⟨h1, h2⟩ | ⟨k, h1, h2, _, h4⟩
  · have e : Rfirst [r] a = -1 := h1
    rw [e] at h ⊢
    rw [← h]
    rfl
  · obtain rfl : k = 0 := by omega
    have e : Rfirst [r] a = ((0 : Nat) : Int) := h1
    rw [e] at h ⊢
    rw [← h]
    rfl
theorem ex_yes : allows [r0] ⟨0, 0, 167772161, 0, 6, 0, 80⟩ = true := by rw [allows_one]; kernel_rfl
theorem ex_no : allows [r0] ⟨0, 0, 167772161, 0, 6, 0, 81⟩ = false := by rw [allows_one]; kernel_rfl
end U

set_option maxHeartbeats 4000000 in
theorem rule_awake (w : World) : Calls Try.prog 10 #[] w fun e w' => e = .returned (.bool true) ∧ Below w.heap.size w w' := by
  have hb0 := below1 w (.cells r0.v.toArray 34)
  have HG := Lib.hid (heap_alloc_new w (.cells r0.v.toArray 34))
  have HA := Lib.hid (fun (a : U.Ask) (ha : a.fine) w' (h : w'.heap[w.heap.size]? = some (.cells r0.v.toArray 34 (0, 0))) => Allows_any (some ⟨w.heap.size, 0, none⟩) 1 [r0] a w' (RowsOf.of_block (fun _ => rfl) (by simp) h) (fun x hx => by rw [List.mem_singleton.1 hx]; exact r0_fine) ha (by simp))
  have HA1 := Lib.hid (HA.out ⟨0, 0, 167772161, 0, 6, 0, 80⟩ ⟨by decide, by decide⟩)
  have HA2 := Lib.hid (HA.out ⟨0, 0, 167772161, 0, 6, 0, 81⟩ ⟨by decide, by decide⟩)
  rw [ex_yes] at HA1
  rw [ex_no] at HA2
  clear HA
  simp only [Ask.v, Ru.v, r0] at *
  go_enter Try.func10, Try.ntmps10
  go_wp2_with fail
  refine (HA1.out _ HG.out).mono ?_
  rintro e w1 ⟨rfl, hb1⟩
  have hbw := hb0.trans (hb1.mono hb0.size)
  have HG1 := Lib.hid ((hb1.block _ (heap_lt HG.out)).trans HG.out)
  clear hb1
  go_wp2_with fail
  refine (HA2.out _ HG1.out).mono ?_
  rintro e w2 ⟨rfl, hb2⟩
  have hbw2 := hbw.trans (hb2.mono hbw.size)
  go_wp2
  go_ret
  exact ⟨rfl, hbw2⟩

-- REGIONS
theorem vs_8 (vs : List Value) (h : vs.length = 8) : ∃ v0 v1 v2 v3 v4 v5 v6 v7, vs = [v0, v1, v2, v3, v4, v5, v6, v7] := by
  obtain ⟨v0, r0, rfl, h0⟩ := vs_cons vs h
  obtain ⟨v1, r1, rfl, h1⟩ := vs_cons r0 h0
  obtain ⟨v2, r2, rfl, h2⟩ := vs_cons r1 h1
  obtain ⟨v3, r3, rfl, h3⟩ := vs_cons r2 h2
  obtain ⟨v4, r4, rfl, h4⟩ := vs_cons r3 h3
  obtain ⟨v5, r5, rfl, h5⟩ := vs_cons r4 h4
  obtain ⟨v6, r6, rfl, h6⟩ := vs_cons r5 h5
  obtain ⟨v7, r7, rfl, h7⟩ := vs_cons r6 h6
  obtain rfl := List.eq_nil_of_length_eq_zero h7
  exact ⟨v0, v1, v2, v3, v4, v5, v6, v7, rfl⟩

set_option maxHeartbeats 8000000 in
theorem rfirst_any (a0 : Option Addr) (cap : Nat) (l : List Ru) (a : U.Ask) (w : World) (h : RRow w a0 l) (hf : Fine l) (ha : a.fine) (hl : l.length ≤ 1000000) :
    Calls Try.prog 11 #[.slice a0 l.length cap, .int .i64 a.i, .int .i64 a.o, .agg a.k.toArray] w fun e w' => e = .returned (.int .i64 (Rfirst l a)) ∧ Below w.heap.size w w' := by
  have HR := Lib.hid h
  have HF := Lib.hid hf
  obtain ⟨fi, hfi⟩ : ∃ x, Rfirst l a = x := ⟨_, rfl⟩
  have HFI := Lib.hid hfi
  rw [hfi]
  have HHit : Hid (∀ k, k < l.length → (∀ j, j < k → (ru l j).m a = false) → (ru l k).m a = true → fi = k) := Lib.hid fun k h1 h2 h3 => by rw [← HFI.out]; exact first_some h1 h2 h3
  have HMiss : Hid ((∀ j, j < l.length → (ru l j).m a = false) → fi = -1) := Lib.hid fun h1 => by rw [← HFI.out]; exact first_none h1
  clear h hf hfi HFI
  obtain ⟨ai, ao, as_, ad, ap, asp, adp⟩ := a
  have Has_ := Lib.hid ha.1
  have Had := Lib.hid ha.2
  clear ha
  simp only [Ask.k] at *
  have hb0 := below1 w (.cells #[.int .u32 as_, .int .u32 ad, .int .i64 ap, .int .i64 asp, .int .i64 adp] 25)
  have LA0 := Lib.hid (Lies.new w [.int .u32 as_, .int .u32 ad, .int .i64 ap, .int .i64 asp, .int .i64 adp] 25)
  go_enter Try.func11, Try.ntmps11
  go_wp2
  generalize (w.alloc (.cells #[.int .u32 as_, .int .u32 ad, .int .i64 ap, .int .i64 asp, .int .i64 adp] 25)) = W0 at *
  go_loopw [9] (fun i wr => ∃ k : Nat, k ≤ l.length ∧ i = .int .i64 k ∧ Hid (∀ j, j < k → (ru l j).m ⟨ai, ao, as_, ad, ap, asp, adp⟩ = false) ∧ Below W0.heap.size W0 wr ∧ Below w.heap.size w wr) (fun i _ => l.length - (intOf i).toNat)
  case atStart => exact ⟨0, Nat.zero_le _, rfl, Lib.hid fun j hj => by omega, Below.refl _ _, hb0⟩
  case round =>
    obtain ⟨k, hk, rfl, HN, hb, hbw⟩ := hrel
    by_cases hkl : k < l.length
    · have hkl2 : (k : Int) < (l.length : Int) := by omega
      obtain ⟨b, off, rfl, hbl, hL⟩ := (HR.out.below hbw).at k _ (ru_get l k hkl)
      have hfin := HF.out _ (ru_mem l k hkl)
      have HHk := Lib.hid (HHit.out k hkl HN.out)
      have HN2 := Lib.hid (fun h : (ru l k).m ⟨ai, ao, as_, ad, ap, asp, adp⟩ = false => (show ∀ j, j < k + 1 → (ru l j).m ⟨ai, ao, as_, ad, ap, asp, adp⟩ = false from fun j hj => by
        rcases Nat.lt_or_ge j k with h1 | h1
        · exact HN.out j h1
        · obtain rfl : j = k := by omega
          exact h))
      have LA := Lib.hid (LA0.out.below hb)
      have LR := Lib.hid hL
      clear hL HN
      generalize ru l k = r at *
      obtain ⟨i, o, sa, sb, da, db, p, slo, shi, dlo, dhi, al⟩ := r
      have Hsa := Lib.hid hfin.1
      have Hda := Lib.hid hfin.2
      simp only [Ru.v] at LR
      clear hfin
      go_wp2
      obtain ⟨m23, hm23⟩ : ∃ x, ((⟨i, o, sa, sb, da, db, p, slo, shi, dlo, dhi, al⟩ : Ru).m ⟨ai, ao, as_, ad, ap, asp, adp⟩) = x := ⟨_, rfl⟩
      replace hm23 := Lib.hid hm23
      have C23 := Lib.hid (fun (w' : World) (hb : Below wr.heap.size wr w') => show Calls Try.prog 14 #[.agg #[.int .i64 i, .int .i64 o, .int .u32 sa, .int .i64 sb, .int .u32 da, .int .i64 db, .int .i64 p, .int .i64 slo, .int .i64 shi, .int .i64 dlo, .int .i64 dhi, .bool al], .int .i64 ai, .int .i64 ao, .agg #[.int .u32 as_, .int .u32 ad, .int .i64 ap, .int .i64 asp, .int .i64 adp]] w' (fun e w'' => e = .returned (.bool m23) ∧ Below w'.heap.size w' w'') from (by rw [← hm23.out]; exact refm_any ⟨i, o, sa, sb, da, db, p, slo, shi, dlo, dhi, al⟩ ⟨ai, ao, as_, ad, ap, asp, adp⟩ w' Hsa.out Hda.out Has_.out Had.out))
      refine region_gen (VG wr.heap.size [.val (.slice (some ⟨b, off, none⟩) l.length cap), .val (.int .i64 k), .val (.pointer (some ⟨b, off + k * 12, none⟩)), .val (.agg #[.int .i64 i, .int .i64 o, .int .u32 sa, .int .i64 sb, .int .u32 da, .int .i64 db, .int .i64 p, .int .i64 slo, .int .i64 shi, .int .i64 dlo, .int .i64 dhi, .bool al]), .val (.int .i64 ai), .val (.int .i64 ao), .val (.agg #[.int .u32 as_, .int .u32 ad, .int .i64 ap, .int .i64 asp, .int .i64 adp]), .val (.bool m23)]) (BS wr) (by kernel_rfl) (by kernel_rfl) (Below.refl _ _).drew ⟨?_, ?_, ?_, ?_, ?_, ?_, ?_, ?_, trivial⟩ ?_
      · go_light; intro listed a' w' hs hS hun hdep
        have e0 : a'.eval (.tmp 0) = .slice (some ⟨b, off, none⟩) l.length cap := (hs.out 0 (by kernel_rfl)).trans (rfl)
        exact g_val (.slice (some ⟨b, off, none⟩) l.length cap) hS rfl (op_move rfl e0) rfl
      · go_light; intro listed a' w' hs hS hun hdep
        have e9 : a'.eval (.tmp 9) = .int .i64 k := (hs.out 9 (by kernel_rfl)).trans (rfl)
        exact g_val (.int .i64 k) hS rfl (op_move rfl e9) rfl
      · go_light; intro listed a' w' hs hS hun hdep
        have e16 : a'.eval (.tmp 16) = (.slice (some ⟨b, off, none⟩) l.length cap) := hs.eval 0 _ 16 rfl (hdep ⟨0, .data⟩ (by simp) rfl) rfl
        have e17 : a'.eval (.tmp 17) = (.int .i64 k) := hs.eval 1 _ 17 rfl (hdep ⟨1, .data⟩ (by simp) rfl) rfl
        exact g_val (.pointer (some ⟨b, off + k * 12, none⟩)) hS rfl (op_ixa rfl e16 e17 Try.underlying22 (by kernel_rfl) hkl) rfl
      · go_light; intro listed a' w' hs hS hun hdep
        have e18 : a'.eval (.tmp 18) = (.pointer (some ⟨b, off + k * 12, none⟩)) := hs.eval 2 _ 18 rfl (hdep ⟨2, .data⟩ (by simp) rfl) rfl
        exact g_val (.agg #[.int .i64 i, .int .i64 o, .int .u32 sa, .int .i64 sb, .int .u32 da, .int .i64 db, .int .i64 p, .int .i64 slo, .int .i64 shi, .int .i64 dlo, .int .i64 dhi, .bool al]) hS rfl (op_ld [.int .i64 i, .int .i64 o, .int .u32 sa, .int .i64 sb, .int .u32 da, .int .i64 db, .int .i64 p, .int .i64 slo, .int .i64 shi, .int .i64 dlo, .int .i64 dhi, .bool al] rfl e18 (LR.out.below hS) 0 (by first | rfl | simp) rfl Try.underlying34 rfl (by kernel_rfl)) rfl
      · go_light; intro listed a' w' hs hS hun hdep
        have e1 : a'.eval (.tmp 1) = .int .i64 ai := (hs.out 1 (by kernel_rfl)).trans (rfl)
        exact g_val (.int .i64 ai) hS rfl (op_move rfl e1) rfl
      · go_light; intro listed a' w' hs hS hun hdep
        have e2 : a'.eval (.tmp 2) = .int .i64 ao := (hs.out 2 (by kernel_rfl)).trans (rfl)
        exact g_val (.int .i64 ao) hS rfl (op_move rfl e2) rfl
      · go_light; intro listed a' w' hs hS hun hdep
        have e7 : a'.eval (.tmp 7) = .pointer (some ⟨w.heap.size, 0, none⟩) := (hs.out 7 (by kernel_rfl)).trans (rfl)
        exact g_val (.agg #[.int .u32 as_, .int .u32 ad, .int .i64 ap, .int .i64 asp, .int .i64 adp]) hS rfl (op_ld [.int .u32 as_, .int .u32 ad, .int .i64 ap, .int .i64 asp, .int .i64 adp] rfl e7 (LA.out.below hS) 0 (by first | rfl | simp) rfl Try.underlying25 rfl (by kernel_rfl)) rfl
      · go_light; intro listed a' w' hs hS hun hdep
        have e19 : a'.eval (.tmp 19) = (.agg #[.int .i64 i, .int .i64 o, .int .u32 sa, .int .i64 sb, .int .u32 da, .int .i64 db, .int .i64 p, .int .i64 slo, .int .i64 shi, .int .i64 dlo, .int .i64 dhi, .bool al]) := hs.eval 3 _ 19 rfl (hdep ⟨3, .data⟩ (by simp) rfl) rfl
        have e20 : a'.eval (.tmp 20) = (.int .i64 ai) := hs.eval 4 _ 20 rfl (hdep ⟨4, .data⟩ (by simp) rfl) rfl
        have e21 : a'.eval (.tmp 21) = (.int .i64 ao) := hs.eval 5 _ 21 rfl (hdep ⟨5, .data⟩ (by simp) rfl) rfl
        have e22 : a'.eval (.tmp 22) = (.agg #[.int .u32 as_, .int .u32 ad, .int .i64 ap, .int .i64 asp, .int .i64 adp]) := hs.eval 6 _ 22 rfl (hdep ⟨6, .data⟩ (by simp) rfl) rfl
        refine g_call 14 #[.agg #[.int .i64 i, .int .i64 o, .int .u32 sa, .int .i64 sb, .int .u32 da, .int .i64 db, .int .i64 p, .int .i64 slo, .int .i64 shi, .int .i64 dlo, .int .i64 dhi, .bool al], .int .i64 ai, .int .i64 ao, .agg #[.int .u32 as_, .int .u32 ad, .int .i64 ap, .int .i64 asp, .int .i64 adp]] hS rfl ?_ ?_
        · have hcn := BigFrame.eval_const a'; have hfn := BigFrame.eval_func a'; clear hs hdep; generalize a'.eval = ev at *; go_simp
        · exact c_val (C23.out w' hS) rfl
      · intro vs w3 hlen hV listed hall hS
        obtain ⟨v0, v1, v2, v3, v4, v5, v6, v7, rfl⟩ := vs_8 vs (hlen.trans rfl)
        have q0 : v0 = .slice (some ⟨b, off, none⟩) l.length cap := hV 0 _ rfl
        have q1 : v1 = .int .i64 k := hV 1 _ rfl
        have q2 : v2 = .pointer (some ⟨b, off + k * 12, none⟩) := hV 2 _ rfl
        have q3 : v3 = .agg #[.int .i64 i, .int .i64 o, .int .u32 sa, .int .i64 sb, .int .u32 da, .int .i64 db, .int .i64 p, .int .i64 slo, .int .i64 shi, .int .i64 dlo, .int .i64 dhi, .bool al] := hV 3 _ rfl
        have q4 : v4 = .int .i64 ai := hV 4 _ rfl
        have q5 : v5 = .int .i64 ao := hV 5 _ rfl
        have q6 : v6 = .agg #[.int .u32 as_, .int .u32 ad, .int .i64 ap, .int .i64 asp, .int .i64 adp] := hV 6 _ rfl
        have q7 : v7 = .bool m23 := hV 7 _ rfl
        have hbel : Below wr.heap.size wr w3 := hS
        subst q0 q1 q2 q3 q4 q5 q6 q7
        clear hV hS hlen hall
        clear listed
        simp only [lays, Act.put, List.setIfInBounds_toArray, List.set_cons_zero, List.set_cons_succ]
        have HM3 := Lib.hid hm23.out
        have hb3 := hb.trans (hbel.mono hb.size)
        have hbw3 := hbw.trans (hbel.mono hbw.size)
        rw [HM3.out] at HHk HN2
        clear hbel HM3 hm23 hb hbw C23 LA LR
        cases m23
        · have G := Lib.hid (HN2.out rfl)
          go_wp2
          go_roundw
          case rel => exact ⟨k + 1, by omega, by go_num, G, hb3, hbw3⟩
          case measure => simp [intOf]; omega
        · have G := Lib.hid (HHk.out rfl)
          go_wp2
          go_ret
          exact ⟨by rw [G.out]; rfl, hbw3⟩
    · obtain rfl : k = l.length := by omega
      have hge : ¬ (l.length : Int) < (l.length : Int) := by omega
      have G := Lib.hid (HMiss.out HN.out)
      go_wp2
      go_ret
      exact ⟨by rw [G.out]; rfl, hbw⟩
#print axioms rfirst_any
end Go.Proofs.Ytagfcfkkjllfpaa
