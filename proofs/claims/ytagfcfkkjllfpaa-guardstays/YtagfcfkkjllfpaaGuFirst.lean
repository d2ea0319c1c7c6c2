/- Which relabelling rules are right; the first one that matches; what label something gets; the document's answer. -/
import Derived.Test.YtagfcfkkjllfpaaGuLow
import Derived.WalkMore
namespace Go.Proofs.Ytagfcfkkjllfpaa
open Go.RowKit
set_option maxRecDepth 100000
set_option linter.unusedVariables false
open Gd

-- REGIONS
theorem vs_22 (vs : List Value) (h : vs.length = 22) : ∃ v0 v1 v2 v3 v4 v5 v6 v7 v8 v9 v10 v11 v12 v13 v14 v15 v16 v17 v18 v19 v20 v21, vs = [v0, v1, v2, v3, v4, v5, v6, v7, v8, v9, v10, v11, v12, v13, v14, v15, v16, v17, v18, v19, v20, v21] := by
  obtain ⟨v0, r0, rfl, h0⟩ := vs_cons vs h
  obtain ⟨v1, r1, rfl, h1⟩ := vs_cons r0 h0
  obtain ⟨v2, r2, rfl, h2⟩ := vs_cons r1 h1
  obtain ⟨v3, r3, rfl, h3⟩ := vs_cons r2 h2
  obtain ⟨v4, r4, rfl, h4⟩ := vs_cons r3 h3
  obtain ⟨v5, r5, rfl, h5⟩ := vs_cons r4 h4
  obtain ⟨v6, r6, rfl, h6⟩ := vs_cons r5 h5
  obtain ⟨v7, r7, rfl, h7⟩ := vs_cons r6 h6
  obtain ⟨v8, r8, rfl, h8⟩ := vs_cons r7 h7
  obtain ⟨v9, r9, rfl, h9⟩ := vs_cons r8 h8
  obtain ⟨v10, r10, rfl, h10⟩ := vs_cons r9 h9
  obtain ⟨v11, r11, rfl, h11⟩ := vs_cons r10 h10
  obtain ⟨v12, r12, rfl, h12⟩ := vs_cons r11 h11
  obtain ⟨v13, r13, rfl, h13⟩ := vs_cons r12 h12
  obtain ⟨v14, r14, rfl, h14⟩ := vs_cons r13 h13
  obtain ⟨v15, r15, rfl, h15⟩ := vs_cons r14 h14
  obtain ⟨v16, r16, rfl, h16⟩ := vs_cons r15 h15
  obtain ⟨v17, r17, rfl, h17⟩ := vs_cons r16 h16
  obtain ⟨v18, r18, rfl, h18⟩ := vs_cons r17 h17
  obtain ⟨v19, r19, rfl, h19⟩ := vs_cons r18 h18
  obtain ⟨v20, r20, rfl, h20⟩ := vs_cons r19 h19
  obtain ⟨v21, r21, rfl, h21⟩ := vs_cons r20 h20
  obtain rfl := List.eq_nil_of_length_eq_zero h21
  exact ⟨v0, v1, v2, v3, v4, v5, v6, v7, v8, v9, v10, v11, v12, v13, v14, v15, v16, v17, v18, v19, v20, v21, rfl⟩
theorem Try.info_boolG : (Try.prog.info? 4).map (·.size) = some 1 := by kernel_rfl
theorem index_gconds (bs : List Bool) (k : Nat) (hk : k < 5) (hl : bs.length = 5) (w : World) : (Instr.index 69 (.agg (bs.map Value.bool).toArray) (.int .i64 k)).run Try.prog w = .ok (.bool (bs.getD k false)) w := by
  cases hq : Try.prog.info? 4 with
  | none => have := Try.info_boolG; simp [hq] at this
  | some i => exact index_bools _ _ 5 _ i Try.underlying69 Try.underlying4 rfl hq (by have := Try.info_boolG; simpa [hq] using this) bs k hk hl w
/-- Relabelling rules in a row. -/
abbrev GRow (w : World) (ao : Option Addr) (l : List Gu) : Prop := RowsOf 8 Gu.v w ao l
def GFine (l : List Gu) : Prop := ∀ x ∈ l, x.fine

set_option maxHeartbeats 4000000 in
theorem GRight_any (mm : Int) (ao : Option Addr) (cap : Nat) (l : List Gu) (w : World) (h : GRow w ao l) (hf : GFine l) (hl : l.length ≤ 1000000) :
    Calls Try.prog 28 #[.int .i64 mm, .slice ao l.length cap] w fun e w' => e = .returned (.bool (l.all (Gu.ok mm))) ∧ Below w.heap.size w w' := by
  have HR := Lib.hid h
  have HF := Lib.hid hf
  clear h hf
  go_enter Try.func28, Try.ntmps28
  go_wp2
  go_loopw [9] (fun i wr => ∃ k : Nat, k ≤ l.length ∧ i = .int .i64 k ∧ Hid (∀ j, j < k → (gu l j).ok mm = true) ∧ Below w.heap.size w wr) (fun i _ => l.length - (intOf i).toNat)
  case atStart => exact ⟨0, Nat.zero_le _, rfl, Lib.hid fun j hj => by omega, Below.refl _ _⟩
  case round =>
    obtain ⟨k, hk, rfl, HN, hb⟩ := hrel
    by_cases hkl : k < l.length
    · have hkl2 : (k : Int) < (l.length : Int) := by omega
      obtain ⟨b, off, rfl, hbl, hL⟩ := (HR.out.below hb).at k _ (gu_get l k hkl)
      have HOK := Lib.hid (fun w' => gok_any mm (gu l k) w' (HF.out _ (gu_mem l k hkl)).1 (HF.out _ (gu_mem l k hkl)).2)
      have HNo := Lib.hid (fun h : (gu l k).ok mm = false => Gd.allOk_no hkl h)
      have HN2 := Lib.hid (fun h : (gu l k).ok mm = true => (show ∀ j, j < k + 1 → (gu l j).ok mm = true from fun j hj => by
        rcases Nat.lt_or_ge j k with h1 | h1
        · exact HN.out j h1
        · obtain rfl : j = k := by omega
          exact h))
      generalize gu l k = r at *
      generalize hok : r.ok mm = q at *
      clear hok
      have c0 := hL.at0 0 _ _ rfl rfl
      have c1 := hL.at0 1 _ _ rfl rfl
      have c2 := hL.at0 2 _ _ rfl rfl
      have c3 := hL.at0 3 _ _ rfl rfl
      have c4 := hL.at0 4 _ _ rfl rfl
      have c5 := hL.at0 5 _ _ rfl rfl
      have c6 := hL.at0 6 _ _ rfl rfl
      have c7 := hL.at0 7 _ _ rfl rfl
      obtain ⟨i, lb, sa, sb, da, db, p, tt⟩ := r
      simp only [Gu.v] at HOK
      simp only [Nat.add_zero] at c0
      clear hL
      go_wp2_with fail
      refine (HOK.out _).mono ?_
      rintro e w2 ⟨rfl, hb2⟩
      have hbw := (hb.alloc hb.size _).trans (hb2.mono (by have := hb.size; simp; omega))
      clear c0 c1 c2 c3 c4 c5 c6 c7 hb2
      cases q
      · have G := Lib.hid (HNo.out rfl)
        go_wp2
        go_ret
        exact ⟨by rw [G.out]; rfl, hbw⟩
      · have G := Lib.hid (HN2.out rfl)
        go_wp2
        go_roundw
        case rel => exact ⟨k + 1, by omega, by go_num, G, hbw⟩
        case measure => simp [intOf]; omega
    · obtain rfl : k = l.length := by omega
      have hge : ¬ (l.length : Int) < (l.length : Int) := by omega
      have G := Lib.hid (Gd.allOk_yes HN.out)
      go_wp2
      go_ret
      exact ⟨by rw [G.out]; rfl, hb⟩

set_option maxHeartbeats 16000000 in
theorem GFirst_any (ao : Option Addr) (cap : Nat) (l : List Gu) (q : Gd.Q) (w : World) (h : GRow w ao l) (hf : GFine l) (hq : q.fine) (hl : l.length ≤ 1000000) :
    Calls Try.prog 25 #[.slice ao l.length cap, .int .i64 q.i, .int .i64 q.l, .int .i64 q.p, .int .u32 q.s, .int .u32 q.d] w fun e w' => e = .returned (.int .i64 (Gfirst l q)) ∧ Below w.heap.size w w' := by
  have HR := Lib.hid h
  have HF := Lib.hid hf
  obtain ⟨fi, hfi⟩ : ∃ x, Gfirst l q = x := ⟨_, rfl⟩
  have HFI := Lib.hid hfi
  rw [hfi]
  have HHit : Hid (∀ k, k < l.length → (∀ j, j < k → (gu l j).m q = false) → (gu l k).m q = true → fi = k) := Lib.hid fun k h1 h2 h3 => by rw [← HFI.out]; exact U.first_some h1 h2 h3
  have HMiss : Hid ((∀ j, j < l.length → (gu l j).m q = false) → fi = -1) := Lib.hid fun h1 => by rw [← HFI.out]; exact U.first_none h1
  clear h hf hfi HFI
  obtain ⟨qi, ql, qp, qs, qd⟩ := q
  have Hqs := Lib.hid hq.1
  have Hqd := Lib.hid hq.2
  clear hq
  go_enter Try.func25, Try.ntmps25
  go_wp2
  go_step3
  go_wp2
  go_step3
  go_wp2
  go_loopw [19] (fun i wr => ∃ k : Nat, k ≤ l.length ∧ i = .int .i64 k ∧ Hid (∀ j, j < k → (gu l j).m ⟨qi, ql, qp, qs, qd⟩ = false) ∧ Below w.heap.size w wr) (fun i _ => l.length - (intOf i).toNat)
  case atStart => exact ⟨0, Nat.zero_le _, rfl, Lib.hid fun j hj => by omega, Below.refl _ _⟩
  case round =>
    obtain ⟨k, hk, rfl, HN, hbw⟩ := hrel
    by_cases hkl : k < l.length
    · have hkl2 : (k : Int) < (l.length : Int) := by omega
      obtain ⟨b, off, rfl, hbl, hL⟩ := (HR.out.below hbw).at k _ (gu_get l k hkl)
      have hfin := HF.out _ (gu_mem l k hkl)
      have HHk := Lib.hid (HHit.out k hkl HN.out)
      have HNk := Lib.hid (fun i (hi : i < 5) => Gd.m_no (r := gu l k) (q := ⟨qi, ql, qp, qs, qd⟩) hi)
      have HYk := Lib.hid (Gd.m_yes (r := gu l k) (q := ⟨qi, ql, qp, qs, qd⟩))
      have HN2 := Lib.hid (fun h : (gu l k).m ⟨qi, ql, qp, qs, qd⟩ = false => (show ∀ j, j < k + 1 → (gu l j).m ⟨qi, ql, qp, qs, qd⟩ = false from fun j hj => by
        rcases Nat.lt_or_ge j k with h1 | h1
        · exact HN.out j h1
        · obtain rfl : j = k := by omega
          exact h))
      clear HN
      generalize gu l k = r at *
      have c0 := hL.at0 0 _ _ rfl rfl
      have c1 := hL.at0 1 _ _ rfl rfl
      have c2 := hL.at0 2 _ _ rfl rfl
      have c3 := hL.at0 3 _ _ rfl rfl
      have c4 := hL.at0 4 _ _ rfl rfl
      have c5 := hL.at0 5 _ _ rfl rfl
      have c6 := hL.at0 6 _ _ rfl rfl
      have c7 := hL.at0 7 _ _ rfl rfl
      obtain ⟨i, lb, sa, sb, da, db, p, tt⟩ := r
      have Hsa := Lib.hid hfin.1
      have Hda := Lib.hid hfin.2
      simp only [Nat.add_zero] at c0
      generalize hmk : (⟨i, lb, sa, sb, da, db, p, tt⟩ : Gu).m ⟨qi, ql, qp, qs, qd⟩ = mk at *
      have Hmk := Lib.hid hmk
      clear hL hfin hmk
      go_wp2
      have hb1 : Below w.heap.size w (wr.alloc (.cells #[.int .i64 i, .int .i64 lb, .int .u32 sa, .int .i64 sb, .int .u32 da, .int .i64 db, .int .i64 p, .int .i64 tt] 50)) := hbw.alloc hbw.size _
      have LB : Hid (Lies (wr.alloc (.cells #[.int .i64 i, .int .i64 lb, .int .u32 sa, .int .i64 sb, .int .u32 da, .int .i64 db, .int .i64 p, .int .i64 tt] 50)) wr.heap.size 0 [.int .i64 i, .int .i64 lb, .int .u32 sa, .int .i64 sb, .int .u32 da, .int .i64 db, .int .i64 p, .int .i64 tt]) := Lib.hid (Lies.new wr [.int .i64 i, .int .i64 lb, .int .u32 sa, .int .i64 sb, .int .u32 da, .int .i64 db, .int .i64 p, .int .i64 tt] _)
      clear c0 c1 c2 c3 c4 c5 c6 c7 hbw
      generalize (wr.alloc (.cells #[.int .i64 i, .int .i64 lb, .int .u32 sa, .int .i64 sb, .int .u32 da, .int .i64 db, .int .i64 p, .int .i64 tt] 50)) = W1 at *
      obtain ⟨m27, hm27⟩ : ∃ x, (U.fits i qi) = x := ⟨_, rfl⟩
      replace hm27 := Lib.hid hm27
      have C27 := Lib.hid (fun (w' : World) (hb : Below W1.heap.size W1 w') => show Calls Try.prog 42 #[.int .i64 i, .int .i64 qi] w' (fun e w'' => e = .returned (.bool m27) ∧ Below w'.heap.size w' w'') from (by rw [← hm27.out]; exact same_below (gfits_any i qi w')))
      obtain ⟨m31, hm31⟩ : ∃ x, (U.fits lb ql) = x := ⟨_, rfl⟩
      replace hm31 := Lib.hid hm31
      have C31 := Lib.hid (fun (w' : World) (hb : Below W1.heap.size W1 w') => show Calls Try.prog 42 #[.int .i64 lb, .int .i64 ql] w' (fun e w'' => e = .returned (.bool m31) ∧ Below w'.heap.size w' w'') from (by rw [← hm31.out]; exact same_below (gfits_any lb ql w')))
      obtain ⟨m35, hm35⟩ : ∃ x, (U.fits p qp) = x := ⟨_, rfl⟩
      replace hm35 := Lib.hid hm35
      have C35 := Lib.hid (fun (w' : World) (hb : Below W1.heap.size W1 w') => show Calls Try.prog 42 #[.int .i64 p, .int .i64 qp] w' (fun e w'' => e = .returned (.bool m35) ∧ Below w'.heap.size w' w'') from (by rw [← hm35.out]; exact same_below (gfits_any p qp w')))
      obtain ⟨m39, hm39⟩ : ∃ x, (A.holds sa sb qs) = x := ⟨_, rfl⟩
      replace hm39 := Lib.hid hm39
      have C39 := Lib.hid (fun (w' : World) (hb : Below W1.heap.size W1 w') => show Calls Try.prog 43 #[.agg #[.int .u32 sa, .int .i64 sb], .int .u32 qs] w' (fun e w'' => e = .returned (.bool m39) ∧ Below w'.heap.size w' w'') from (by rw [← hm39.out]; exact holds_any sa sb qs w' Hqs.out))
      obtain ⟨m43, hm43⟩ : ∃ x, (A.holds da db qd) = x := ⟨_, rfl⟩
      replace hm43 := Lib.hid hm43
      have C43 := Lib.hid (fun (w' : World) (hb : Below W1.heap.size W1 w') => show Calls Try.prog 43 #[.agg #[.int .u32 da, .int .i64 db], .int .u32 qd] w' (fun e w'' => e = .returned (.bool m43) ∧ Below w'.heap.size w' w'') from (by rw [← hm43.out]; exact holds_any da db qd w' Hqd.out))
      refine region_gen (VG W1.heap.size [.val (.pointer (some ⟨wr.heap.size, 0, none⟩)), .val (.int .i64 i), .val (.int .i64 qi), .val (.bool m27), .val (.pointer (some ⟨wr.heap.size, 1, none⟩)), .val (.int .i64 lb), .val (.int .i64 ql), .val (.bool m31), .val (.pointer (some ⟨wr.heap.size, 6, none⟩)), .val (.int .i64 p), .val (.int .i64 qp), .val (.bool m35), .val (.pointer (some ⟨wr.heap.size, 2, none⟩)), .val (.agg #[.int .u32 sa, .int .i64 sb]), .val (.int .u32 qs), .val (.bool m39), .val (.pointer (some ⟨wr.heap.size, 4, none⟩)), .val (.agg #[.int .u32 da, .int .i64 db]), .val (.int .u32 qd), .val (.bool m43), .val (.agg #[.bool m27, .bool m31, .bool m35, .bool m39, .bool m43]), .val (.int .i64 0)]) (BS W1) (by kernel_rfl) (by kernel_rfl) (Below.refl _ _).drew ⟨?_, ?_, ?_, ?_, ?_, ?_, ?_, ?_, ?_, ?_, ?_, ?_, ?_, ?_, ?_, ?_, ?_, ?_, ?_, ?_, ?_, ?_, trivial⟩ ?_
      · go_light; intro listed a' w' hs hS hun hdep
        have e14 : a'.eval (.tmp 14) = .pointer (some ⟨wr.heap.size, 0, none⟩) := (hs.out 14 (by kernel_rfl)).trans (rfl)
        refine g_val (.pointer (some ⟨wr.heap.size, 0, none⟩)) hS rfl ?_ rfl
        have hcn := BigFrame.eval_const a'; have hfn := BigFrame.eval_func a'; clear hs hdep; generalize a'.eval = ev at *; go_simp
      · go_light; intro listed a' w' hs hS hun hdep
        have e24 : a'.eval (.tmp 24) = (.pointer (some ⟨wr.heap.size, 0, none⟩)) := hs.eval 0 _ 24 rfl (hdep ⟨0, .data⟩ (by simp) rfl) rfl
        exact g_val (.int .i64 i) hS rfl (op_ld1 (.int .i64 i) rfl e24 (LB.out.below hS) 0 (by first | rfl | simp) rfl Try.underlying3 rfl) rfl
      · go_light; intro listed a' w' hs hS hun hdep
        have e1 : a'.eval (.tmp 1) = .int .i64 qi := (hs.out 1 (by kernel_rfl)).trans (rfl)
        exact g_val (.int .i64 qi) hS rfl (op_move rfl e1) rfl
      · go_light; intro listed a' w' hs hS hun hdep
        have e25 : a'.eval (.tmp 25) = (.int .i64 i) := hs.eval 1 _ 25 rfl (hdep ⟨1, .data⟩ (by simp) rfl) rfl
        have e26 : a'.eval (.tmp 26) = (.int .i64 qi) := hs.eval 2 _ 26 rfl (hdep ⟨2, .data⟩ (by simp) rfl) rfl
        refine g_call 42 #[.int .i64 i, .int .i64 qi] hS rfl ?_ ?_
        · have hcn := BigFrame.eval_const a'; have hfn := BigFrame.eval_func a'; clear hs hdep; generalize a'.eval = ev at *; go_simp
        · exact c_val (C27.out w' hS) rfl
      · go_light; intro listed a' w' hs hS hun hdep
        have e14 : a'.eval (.tmp 14) = .pointer (some ⟨wr.heap.size, 0, none⟩) := (hs.out 14 (by kernel_rfl)).trans (rfl)
        refine g_val (.pointer (some ⟨wr.heap.size, 1, none⟩)) hS rfl ?_ rfl
        have hcn := BigFrame.eval_const a'; have hfn := BigFrame.eval_func a'; clear hs hdep; generalize a'.eval = ev at *; go_simp
      · go_light; intro listed a' w' hs hS hun hdep
        have e28 : a'.eval (.tmp 28) = (.pointer (some ⟨wr.heap.size, 1, none⟩)) := hs.eval 4 _ 28 rfl (hdep ⟨4, .data⟩ (by simp) rfl) rfl
        exact g_val (.int .i64 lb) hS rfl (op_ld1 (.int .i64 lb) rfl e28 (LB.out.below hS) 1 (by first | rfl | simp) rfl Try.underlying3 rfl) rfl
      · go_light; intro listed a' w' hs hS hun hdep
        have e2 : a'.eval (.tmp 2) = .int .i64 ql := (hs.out 2 (by kernel_rfl)).trans (rfl)
        exact g_val (.int .i64 ql) hS rfl (op_move rfl e2) rfl
      · go_light; intro listed a' w' hs hS hun hdep
        have e29 : a'.eval (.tmp 29) = (.int .i64 lb) := hs.eval 5 _ 29 rfl (hdep ⟨5, .data⟩ (by simp) rfl) rfl
        have e30 : a'.eval (.tmp 30) = (.int .i64 ql) := hs.eval 6 _ 30 rfl (hdep ⟨6, .data⟩ (by simp) rfl) rfl
        refine g_call 42 #[.int .i64 lb, .int .i64 ql] hS rfl ?_ ?_
        · have hcn := BigFrame.eval_const a'; have hfn := BigFrame.eval_func a'; clear hs hdep; generalize a'.eval = ev at *; go_simp
        · exact c_val (C31.out w' hS) rfl
      · go_light; intro listed a' w' hs hS hun hdep
        have e14 : a'.eval (.tmp 14) = .pointer (some ⟨wr.heap.size, 0, none⟩) := (hs.out 14 (by kernel_rfl)).trans (rfl)
        refine g_val (.pointer (some ⟨wr.heap.size, 6, none⟩)) hS rfl ?_ rfl
        have hcn := BigFrame.eval_const a'; have hfn := BigFrame.eval_func a'; clear hs hdep; generalize a'.eval = ev at *; go_simp
      · go_light; intro listed a' w' hs hS hun hdep
        have e32 : a'.eval (.tmp 32) = (.pointer (some ⟨wr.heap.size, 6, none⟩)) := hs.eval 8 _ 32 rfl (hdep ⟨8, .data⟩ (by simp) rfl) rfl
        exact g_val (.int .i64 p) hS rfl (op_ld1 (.int .i64 p) rfl e32 (LB.out.below hS) 6 (by first | rfl | simp) rfl Try.underlying3 rfl) rfl
      · go_light; intro listed a' w' hs hS hun hdep
        have e3 : a'.eval (.tmp 3) = .int .i64 qp := (hs.out 3 (by kernel_rfl)).trans (rfl)
        exact g_val (.int .i64 qp) hS rfl (op_move rfl e3) rfl
      · go_light; intro listed a' w' hs hS hun hdep
        have e33 : a'.eval (.tmp 33) = (.int .i64 p) := hs.eval 9 _ 33 rfl (hdep ⟨9, .data⟩ (by simp) rfl) rfl
        have e34 : a'.eval (.tmp 34) = (.int .i64 qp) := hs.eval 10 _ 34 rfl (hdep ⟨10, .data⟩ (by simp) rfl) rfl
        refine g_call 42 #[.int .i64 p, .int .i64 qp] hS rfl ?_ ?_
        · have hcn := BigFrame.eval_const a'; have hfn := BigFrame.eval_func a'; clear hs hdep; generalize a'.eval = ev at *; go_simp
        · exact c_val (C35.out w' hS) rfl
      · go_light; intro listed a' w' hs hS hun hdep
        have e14 : a'.eval (.tmp 14) = .pointer (some ⟨wr.heap.size, 0, none⟩) := (hs.out 14 (by kernel_rfl)).trans (rfl)
        refine g_val (.pointer (some ⟨wr.heap.size, 2, none⟩)) hS rfl ?_ rfl
        have hcn := BigFrame.eval_const a'; have hfn := BigFrame.eval_func a'; clear hs hdep; generalize a'.eval = ev at *; go_simp
      · go_light; intro listed a' w' hs hS hun hdep
        have e36 : a'.eval (.tmp 36) = (.pointer (some ⟨wr.heap.size, 2, none⟩)) := hs.eval 12 _ 36 rfl (hdep ⟨12, .data⟩ (by simp) rfl) rfl
        exact g_val (.agg #[.int .u32 sa, .int .i64 sb]) hS rfl (op_ld [.int .u32 sa, .int .i64 sb] rfl e36 (LB.out.below hS) 2 (by first | rfl | simp) rfl Try.underlying32 rfl (by kernel_rfl)) rfl
      · go_light; intro listed a' w' hs hS hun hdep
        have e4 : a'.eval (.tmp 4) = .int .u32 qs := (hs.out 4 (by kernel_rfl)).trans (rfl)
        exact g_val (.int .u32 qs) hS rfl (op_move rfl e4) rfl
      · go_light; intro listed a' w' hs hS hun hdep
        have e37 : a'.eval (.tmp 37) = (.agg #[.int .u32 sa, .int .i64 sb]) := hs.eval 13 _ 37 rfl (hdep ⟨13, .data⟩ (by simp) rfl) rfl
        have e38 : a'.eval (.tmp 38) = (.int .u32 qs) := hs.eval 14 _ 38 rfl (hdep ⟨14, .data⟩ (by simp) rfl) rfl
        refine g_call 43 #[.agg #[.int .u32 sa, .int .i64 sb], .int .u32 qs] hS rfl ?_ ?_
        · have hcn := BigFrame.eval_const a'; have hfn := BigFrame.eval_func a'; clear hs hdep; generalize a'.eval = ev at *; go_simp
        · exact c_val (C39.out w' hS) rfl
      · go_light; intro listed a' w' hs hS hun hdep
        have e14 : a'.eval (.tmp 14) = .pointer (some ⟨wr.heap.size, 0, none⟩) := (hs.out 14 (by kernel_rfl)).trans (rfl)
        refine g_val (.pointer (some ⟨wr.heap.size, 4, none⟩)) hS rfl ?_ rfl
        have hcn := BigFrame.eval_const a'; have hfn := BigFrame.eval_func a'; clear hs hdep; generalize a'.eval = ev at *; go_simp
      · go_light; intro listed a' w' hs hS hun hdep
        have e40 : a'.eval (.tmp 40) = (.pointer (some ⟨wr.heap.size, 4, none⟩)) := hs.eval 16 _ 40 rfl (hdep ⟨16, .data⟩ (by simp) rfl) rfl
        exact g_val (.agg #[.int .u32 da, .int .i64 db]) hS rfl (op_ld [.int .u32 da, .int .i64 db] rfl e40 (LB.out.below hS) 4 (by first | rfl | simp) rfl Try.underlying32 rfl (by kernel_rfl)) rfl
      · go_light; intro listed a' w' hs hS hun hdep
        have e5 : a'.eval (.tmp 5) = .int .u32 qd := (hs.out 5 (by kernel_rfl)).trans (rfl)
        exact g_val (.int .u32 qd) hS rfl (op_move rfl e5) rfl
      · go_light; intro listed a' w' hs hS hun hdep
        have e41 : a'.eval (.tmp 41) = (.agg #[.int .u32 da, .int .i64 db]) := hs.eval 17 _ 41 rfl (hdep ⟨17, .data⟩ (by simp) rfl) rfl
        have e42 : a'.eval (.tmp 42) = (.int .u32 qd) := hs.eval 18 _ 42 rfl (hdep ⟨18, .data⟩ (by simp) rfl) rfl
        refine g_call 43 #[.agg #[.int .u32 da, .int .i64 db], .int .u32 qd] hS rfl ?_ ?_
        · have hcn := BigFrame.eval_const a'; have hfn := BigFrame.eval_func a'; clear hs hdep; generalize a'.eval = ev at *; go_simp
        · exact c_val (C43.out w' hS) rfl
      · go_light; intro listed a' w' hs hS hun hdep
        have e27 : a'.eval (.tmp 27) = (.bool m27) := hs.eval 3 _ 27 rfl (hdep ⟨3, .data⟩ (by simp) rfl) rfl
        have e31 : a'.eval (.tmp 31) = (.bool m31) := hs.eval 7 _ 31 rfl (hdep ⟨7, .data⟩ (by simp) rfl) rfl
        have e35 : a'.eval (.tmp 35) = (.bool m35) := hs.eval 11 _ 35 rfl (hdep ⟨11, .data⟩ (by simp) rfl) rfl
        have e39 : a'.eval (.tmp 39) = (.bool m39) := hs.eval 15 _ 39 rfl (hdep ⟨15, .data⟩ (by simp) rfl) rfl
        have e43 : a'.eval (.tmp 43) = (.bool m43) := hs.eval 19 _ 43 rfl (hdep ⟨19, .data⟩ (by simp) rfl) rfl
        refine g_val (.agg #[.bool m27, .bool m31, .bool m35, .bool m39, .bool m43]) hS rfl ?_ rfl
        have hcn := BigFrame.eval_const a'; have hfn := BigFrame.eval_func a'; clear hs hdep; generalize a'.eval = ev at *; go_simp
      · go_light; intro listed a' w' hs hS hun hdep
        exact g_val (.int .i64 0) hS rfl (op_move rfl (BigFrame.eval_const a' _)) rfl
      · intro vs w2 hlen hV listed hall hS
        obtain ⟨v0, v1, v2, v3, v4, v5, v6, v7, v8, v9, v10, v11, v12, v13, v14, v15, v16, v17, v18, v19, v20, v21, rfl⟩ := vs_22 vs (hlen.trans rfl)
        have q0 : v0 = .pointer (some ⟨wr.heap.size, 0, none⟩) := hV 0 _ rfl
        have q1 : v1 = .int .i64 i := hV 1 _ rfl
        have q2 : v2 = .int .i64 qi := hV 2 _ rfl
        have q3 : v3 = .bool m27 := hV 3 _ rfl
        have q4 : v4 = .pointer (some ⟨wr.heap.size, 1, none⟩) := hV 4 _ rfl
        have q5 : v5 = .int .i64 lb := hV 5 _ rfl
        have q6 : v6 = .int .i64 ql := hV 6 _ rfl
        have q7 : v7 = .bool m31 := hV 7 _ rfl
        have q8 : v8 = .pointer (some ⟨wr.heap.size, 6, none⟩) := hV 8 _ rfl
        have q9 : v9 = .int .i64 p := hV 9 _ rfl
        have q10 : v10 = .int .i64 qp := hV 10 _ rfl
        have q11 : v11 = .bool m35 := hV 11 _ rfl
        have q12 : v12 = .pointer (some ⟨wr.heap.size, 2, none⟩) := hV 12 _ rfl
        have q13 : v13 = .agg #[.int .u32 sa, .int .i64 sb] := hV 13 _ rfl
        have q14 : v14 = .int .u32 qs := hV 14 _ rfl
        have q15 : v15 = .bool m39 := hV 15 _ rfl
        have q16 : v16 = .pointer (some ⟨wr.heap.size, 4, none⟩) := hV 16 _ rfl
        have q17 : v17 = .agg #[.int .u32 da, .int .i64 db] := hV 17 _ rfl
        have q18 : v18 = .int .u32 qd := hV 18 _ rfl
        have q19 : v19 = .bool m43 := hV 19 _ rfl
        have q20 : v20 = .agg #[.bool m27, .bool m31, .bool m35, .bool m39, .bool m43] := hV 20 _ rfl
        have q21 : v21 = .int .i64 0 := hV 21 _ rfl
        have hbel : Below W1.heap.size W1 w2 := hS
        subst q0 q1 q2 q3 q4 q5 q6 q7 q8 q9 q10 q11 q12 q13 q14 q15 q16 q17 q18 q19 q20 q21
        clear hV hS hlen hall
        clear listed
        simp only [lays, Act.put, List.setIfInBounds_toArray, List.set_cons_zero, List.set_cons_succ]
        have HBS : Hid ([m27, m31, m35, m39, m43] = conds ⟨i, lb, sa, sb, da, db, p, tt⟩ ⟨qi, ql, qp, qs, qd⟩) := Lib.hid (by unfold conds; rw [← hm43.out, ← hm39.out, ← hm35.out, ← hm31.out, ← hm27.out])
        have hbw2 := hb1.trans (hbel.mono hb1.size)
        have hagg : (.agg #[.bool m27, .bool m31, .bool m35, .bool m39, .bool m43] : Value) = .agg ((([m27, m31, m35, m39, m43] : List Bool).map Value.bool).toArray) := rfl
        rw [hagg]
        have HL5 := Lib.hid (show ([m27, m31, m35, m39, m43] : List Bool).length = 5 from rfl)
        rw [← HBS.out] at HNk HYk
        clear hbel hm27 hm31 hm35 hm39 hm43 C27 C31 C35 C39 C43 LB hb1 hagg HBS Hmk
        generalize ([m27, m31, m35, m39, m43] : List Bool) = bs at *
        go_wp2
        go_loopw [45] (fun i wr => ∃ j : Nat, j ≤ 5 ∧ i = .int .i64 j ∧ Hid (∀ q, q < j → bs.getD q false = true) ∧ wr = w2) (fun i _ => 5 - (intOf i).toNat)
        case atStart => exact ⟨0, Nat.zero_le _, rfl, Lib.hid fun j hj => by omega, rfl⟩
        case round =>
          obtain ⟨j, hj, rfl, HJ, rfl⟩ := hrel
          by_cases hj5 : j < 5
          · have hj5' : (j : Int) < 5 := by omega
            have hix := fun w => index_gconds bs j hj5 HL5.out w
            obtain ⟨x, hx⟩ : ∃ x, bs.getD j false = x := ⟨_, rfl⟩
            rw [hx] at hix
            cases x
            · have G := Lib.hid (HN2.out (HNk.out j hj5 hx))
              clear hx
              go_wp2
              go_roundw
              case rel => exact ⟨k + 1, by omega, by go_num, G, hbw2⟩
              case measure => simp [intOf]; omega
            · have HJ2 : Hid (∀ q, q < j + 1 → bs.getD q false = true) := Lib.hid fun q hq => by
                rcases Nat.lt_or_ge q j with h1 | h1
                · exact HJ.out q h1
                · obtain rfl : q = j := by omega
                  exact hx
              clear hx
              go_wp2
              go_roundw
              case rel => exact ⟨j + 1, by omega, by go_num, HJ2, by trivial⟩
              case measure => simp [intOf]; omega
          · obtain rfl : j = 5 := by omega
            have G := Lib.hid (HHk.out (HYk.out HJ.out))
            go_wp2
            unfold Exit.noGoto
            go_ret
            exact ⟨by rw [G.out]; rfl, hbw2⟩
    · obtain rfl : k = l.length := by omega
      have hge : ¬ (l.length : Int) < (l.length : Int) := by omega
      have G := Lib.hid (HMiss.out HN.out)
      go_wp2
      go_ret
      exact ⟨by rw [G.out]; rfl, hbw⟩

set_option maxHeartbeats 4000000 in
theorem GMatches_any (r : Gu) (q : Gd.Q) (w : World) (hr : r.fine) (hq : q.fine) : Calls Try.prog 23 #[.agg r.v.toArray, .int .i64 q.i, .int .i64 q.l, .int .i64 q.p, .int .u32 q.s, .int .u32 q.d] w fun e w' => e = .returned (.bool (r.m q)) ∧ Below w.heap.size w w' := by
  have HF := Lib.hid (fun (g : Nat) (w' : World) (h : w'.heap[g]? = some (.cells r.v.toArray 50 (0, 0))) => GFirst_any (some ⟨g, 0, none⟩) 1 [r] q w' (RowsOf.of_block (fun _ => rfl) (by simp) h) (fun x hx => by rw [List.mem_singleton.1 hx]; exact hr) hq (by simp))
  have HE := Lib.hid (Gfirst_one r q)
  have hb0 := ((Below.refl _ w).alloc (Nat.le_refl _) (.cells r.v.toArray 50)).alloc (by simp) (.cells r.v.toArray 50)
  have HG : Hid (((w.alloc (.cells r.v.toArray 50)).alloc (.cells r.v.toArray 50)).heap[w.heap.size + 1]? = some (.cells r.v.toArray 50 (0, 0))) := Lib.hid (by
    have := heap_alloc_new (w.alloc (.cells r.v.toArray 50)) (.cells r.v.toArray 50)
    simpa using this)
  generalize r.m q = mm at *
  generalize Gfirst [r] q = fi at *
  clear hr hq
  obtain ⟨i, lb, sa, sb, da, db, p, tt⟩ := r
  obtain ⟨qi, ql, qp, qs, qd⟩ := q
  simp only [Gu.v] at *
  go_enter Try.func23, Try.ntmps23
  go_wp2_with fail
  refine (HF.out _ _ HG.out).mono ?_
  rintro e w1 ⟨rfl, hb1⟩
  have hbw := hb0.trans (hb1.mono hb0.size)
  go_wp2
  go_ret
  exact ⟨by rw [← HE.out]; rfl, hbw⟩

set_option maxHeartbeats 4000000 in
theorem GTo_any (ao : Option Addr) (cap : Nat) (l : List Gu) (q : Gd.Q) (w : World) (h : GRow w ao l) (hf : GFine l) (hq : q.fine) (hl : l.length ≤ 1000000) :
    Calls Try.prog 26 #[.slice ao l.length cap, .int .i64 q.i, .int .i64 q.l, .int .i64 q.p, .int .u32 q.s, .int .u32 q.d] w fun e w' => e = .returned (.int .i64 (Gto l q)) ∧ Below w.heap.size w w' := by
  have HF := Lib.hid (GFirst_any ao cap l q w h hf hq hl)
  rcases U.first_cases (fun k => (gu l k).m q) l.length with ⟨h1, h2⟩ | ⟨k, h1, h2, _, h4⟩
  · have h1' : Gfirst l q = -1 := h1
    have HE := Lib.hid (Gto_none h1')
    rw [h1'] at HF
    clear h hf hq h1 h2 h1'
    obtain ⟨qi, ql, qp, qs, qd⟩ := q
    go_enter Try.func26, Try.ntmps26
    go_wp2_with fail
    refine HF.out.mono ?_
    rintro e w1 ⟨rfl, hb1⟩
    go_wp2
    go_ret
    exact ⟨by rw [HE.out]; rfl, hb1⟩
  · have h1' : Gfirst l q = (k : Int) := h1
    have HE := Lib.hid (Gto_some h1')
    rw [h1'] at HF
    obtain ⟨b, off, rfl, hbl, hL⟩ := h.at k _ (gu_get l k h2)
    have HL := Lib.hid hL
    have hkl : (k : Int) < (l.length : Int) := by omega
    clear h hf hq h1 h1' h4 hL
    generalize gu l k = r at *
    obtain ⟨i, lb, sa, sb, da, db, p, tt⟩ := r
    obtain ⟨qi, ql, qp, qs, qd⟩ := q
    go_enter Try.func26, Try.ntmps26
    go_wp2_with fail
    refine HF.out.mono ?_
    rintro e w1 ⟨rfl, hb1⟩
    have c7 := (HL.out.below hb1).at0 7 _ _ rfl rfl
    go_wp2
    go_ret
    exact ⟨by rw [HE.out]; rfl, hb1⟩

set_option maxHeartbeats 8000000 in
theorem rgTo_any (ao : Option Addr) (cap : Nat) (l : List Gu) (q : Gd.Q) (w : World) (h : GRow w ao l) (hf : GFine l) (hq : q.fine) (hl : l.length ≤ 1000000) :
    Calls Try.prog 27 #[.slice ao l.length cap, .int .i64 q.i, .int .i64 q.l, .int .i64 q.p, .int .u32 q.s, .int .u32 q.d] w fun e w' => e = .returned (.int .i64 (Gto l q)) ∧ Below w.heap.size w w' := by
  have HR := Lib.hid h
  obtain ⟨gt, hgt⟩ : ∃ x, Gto l q = x := ⟨_, rfl⟩
  have HGT := Lib.hid hgt
  rw [hgt]
  have HHit : Hid (∀ k, k < l.length → (∀ j, j < k → (gu l j).m q = false) → (gu l k).m q = true → gt = (gu l k).to) := Lib.hid fun k h1 h2 h3 => by rw [← HGT.out]; exact Gto_some (U.first_some h1 h2 h3)
  have HMiss : Hid ((∀ j, j < l.length → (gu l j).m q = false) → gt = q.l) := Lib.hid fun h1 => by rw [← HGT.out]; exact Gto_none (U.first_none h1)
  have HM := Lib.hid (fun k (hk : k < l.length) w' => rgm_any (gu l k) q w' (hf _ (gu_mem l k hk)) hq)
  clear h hf hgt HGT hq
  generalize hmm : (fun k => (gu l k).m q) = mm at *
  have hmm' : ∀ k, (gu l k).m q = mm k := fun k => congrFun hmm k
  simp only [hmm'] at HHit HMiss HM
  clear hmm hmm'
  obtain ⟨qi, ql, qp, qs, qd⟩ := q
  simp only [] at HM HMiss
  go_enter Try.func27, Try.ntmps27
  go_wp2
  go_loopw [13] (fun i wr => ∃ k : Nat, k ≤ l.length ∧ i = .int .i64 k ∧ Hid (∀ j, j < k → mm j = false) ∧ Below w.heap.size w wr) (fun i _ => l.length - (intOf i).toNat)
  case atStart => exact ⟨0, Nat.zero_le _, rfl, Lib.hid fun j hj => by omega, Below.refl _ _⟩
  case round =>
    obtain ⟨k, hk, rfl, HN, hb⟩ := hrel
    by_cases hkl : k < l.length
    · have hkl2 : (k : Int) < (l.length : Int) := by omega
      obtain ⟨b, off, rfl, hbl, hL⟩ := (HR.out.below hb).at k _ (gu_get l k hkl)
      have HMk := Lib.hid (HM.out k hkl)
      have HHk := Lib.hid (HHit.out k hkl HN.out)
      have HN2 := Lib.hid (fun h : mm k = false => (show ∀ j, j < k + 1 → mm j = false from fun j hj => by
        rcases Nat.lt_or_ge j k with h1 | h1
        · exact HN.out j h1
        · obtain rfl : j = k := by omega
          exact h))
      generalize mm k = x at *
      generalize gu l k = r at *
      have c0 := hL.at0 0 _ _ rfl rfl
      have c1 := hL.at0 1 _ _ rfl rfl
      have c2 := hL.at0 2 _ _ rfl rfl
      have c3 := hL.at0 3 _ _ rfl rfl
      have c4 := hL.at0 4 _ _ rfl rfl
      have c5 := hL.at0 5 _ _ rfl rfl
      have c6 := hL.at0 6 _ _ rfl rfl
      have c7 := hL.at0 7 _ _ rfl rfl
      have HL := Lib.hid hL
      obtain ⟨i, lb, sa, sb, da, db, p, tt⟩ := r
      simp only [Gu.v] at HMk HL
      simp only [Nat.add_zero] at c0
      clear hL
      go_wp2_with fail
      refine (HMk.out _).mono ?_
      rintro e w2 ⟨rfl, hb2⟩
      have hbw := hb.trans (hb2.mono hb.size)
      have HL2 := Lib.hid (HL.out.below hb2)
      clear c0 c1 c2 c3 c4 c5 c6 c7 hb2 hb
      cases x
      · have G := Lib.hid (HN2.out rfl)
        go_wp2
        go_roundw
        case rel => exact ⟨k + 1, by omega, by go_num, G, hbw⟩
        case measure => simp [intOf]; omega
      · have G := Lib.hid (HHk.out rfl)
        have c7 := HL2.out.at0 7 _ _ rfl rfl
        go_wp2
        go_ret
        exact ⟨by rw [G.out]; rfl, hbw⟩
    · obtain rfl : k = l.length := by omega
      have hge : ¬ (l.length : Int) < (l.length : Int) := by omega
      have G := Lib.hid (HMiss.out HN.out)
      go_wp2
      go_ret
      exact ⟨by rw [G.out]; rfl, hb⟩
#print axioms rgTo_any
end Go.Proofs.Ytagfcfkkjllfpaa
