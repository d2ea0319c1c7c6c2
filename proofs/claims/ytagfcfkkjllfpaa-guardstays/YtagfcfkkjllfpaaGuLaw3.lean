/- GuardStays, walked whole. -/
import Derived.Test.YtagfcfkkjllfpaaGuTo
namespace Go.Proofs.Ytagfcfkkjllfpaa
open Go.RowKit
set_option maxRecDepth 100000
set_option linter.unusedVariables false
open Gd

-- REGIONS
theorem vs_60 (vs : List Value) (h : vs.length = 60) : ∃ v0 v1 v2 v3 v4 v5 v6 v7 v8 v9 v10 v11 v12 v13 v14 v15 v16 v17 v18 v19 v20 v21 v22 v23 v24 v25 v26 v27 v28 v29 v30 v31 v32 v33 v34 v35 v36 v37 v38 v39 v40 v41 v42 v43 v44 v45 v46 v47 v48 v49 v50 v51 v52 v53 v54 v55 v56 v57 v58 v59, vs = [v0, v1, v2, v3, v4, v5, v6, v7, v8, v9, v10, v11, v12, v13, v14, v15, v16, v17, v18, v19, v20, v21, v22, v23, v24, v25, v26, v27, v28, v29, v30, v31, v32, v33, v34, v35, v36, v37, v38, v39, v40, v41, v42, v43, v44, v45, v46, v47, v48, v49, v50, v51, v52, v53, v54, v55, v56, v57, v58, v59] := by
  obtain ⟨v0, r0, rfl, h0⟩ := vs_cons vs h
  obtain ⟨v1, r1, rfl, h1⟩ := vs_cons r0 h0
  obtain ⟨v2, r2, rfl, h2⟩ := vs_cons r1 h1
  obtain ⟨v3, r3, rfl, h3⟩ := vs_cons r2 h2
  obtain ⟨v4, r4, rfl, h4⟩ := vs_cons r3 h3
  obtain ⟨v5, r5, rfl, h5⟩ := vs_cons r4 h4
  obtain ⟨v6, r6, rfl, h6⟩ := vs_cons r5 h5
  obtain ⟨v7, r7, rfl, h7⟩ := vs_cons r6 h6
  obtain ⟨v8, r8, rfl, h8⟩ := vs_cons r7 h7
  obtain ⟨v9, r9, rfl, h9⟩ := vs_cons r8 h8
  obtain ⟨v10, r10, rfl, h10⟩ := vs_cons r9 h9
  obtain ⟨v11, r11, rfl, h11⟩ := vs_cons r10 h10
  obtain ⟨v12, r12, rfl, h12⟩ := vs_cons r11 h11
  obtain ⟨v13, r13, rfl, h13⟩ := vs_cons r12 h12
  obtain ⟨v14, r14, rfl, h14⟩ := vs_cons r13 h13
  obtain ⟨v15, r15, rfl, h15⟩ := vs_cons r14 h14
  obtain ⟨v16, r16, rfl, h16⟩ := vs_cons r15 h15
  obtain ⟨v17, r17, rfl, h17⟩ := vs_cons r16 h16
  obtain ⟨v18, r18, rfl, h18⟩ := vs_cons r17 h17
  obtain ⟨v19, r19, rfl, h19⟩ := vs_cons r18 h18
  obtain ⟨v20, r20, rfl, h20⟩ := vs_cons r19 h19
  obtain ⟨v21, r21, rfl, h21⟩ := vs_cons r20 h20
  obtain ⟨v22, r22, rfl, h22⟩ := vs_cons r21 h21
  obtain ⟨v23, r23, rfl, h23⟩ := vs_cons r22 h22
  obtain ⟨v24, r24, rfl, h24⟩ := vs_cons r23 h23
  obtain ⟨v25, r25, rfl, h25⟩ := vs_cons r24 h24
  obtain ⟨v26, r26, rfl, h26⟩ := vs_cons r25 h25
  obtain ⟨v27, r27, rfl, h27⟩ := vs_cons r26 h26
  obtain ⟨v28, r28, rfl, h28⟩ := vs_cons r27 h27
  obtain ⟨v29, r29, rfl, h29⟩ := vs_cons r28 h28
  obtain ⟨v30, r30, rfl, h30⟩ := vs_cons r29 h29
  obtain ⟨v31, r31, rfl, h31⟩ := vs_cons r30 h30
  obtain ⟨v32, r32, rfl, h32⟩ := vs_cons r31 h31
  obtain ⟨v33, r33, rfl, h33⟩ := vs_cons r32 h32
  obtain ⟨v34, r34, rfl, h34⟩ := vs_cons r33 h33
  obtain ⟨v35, r35, rfl, h35⟩ := vs_cons r34 h34
  obtain ⟨v36, r36, rfl, h36⟩ := vs_cons r35 h35
  obtain ⟨v37, r37, rfl, h37⟩ := vs_cons r36 h36
  obtain ⟨v38, r38, rfl, h38⟩ := vs_cons r37 h37
  obtain ⟨v39, r39, rfl, h39⟩ := vs_cons r38 h38
  obtain ⟨v40, r40, rfl, h40⟩ := vs_cons r39 h39
  obtain ⟨v41, r41, rfl, h41⟩ := vs_cons r40 h40
  obtain ⟨v42, r42, rfl, h42⟩ := vs_cons r41 h41
  obtain ⟨v43, r43, rfl, h43⟩ := vs_cons r42 h42
  obtain ⟨v44, r44, rfl, h44⟩ := vs_cons r43 h43
  obtain ⟨v45, r45, rfl, h45⟩ := vs_cons r44 h44
  obtain ⟨v46, r46, rfl, h46⟩ := vs_cons r45 h45
  obtain ⟨v47, r47, rfl, h47⟩ := vs_cons r46 h46
  obtain ⟨v48, r48, rfl, h48⟩ := vs_cons r47 h47
  obtain ⟨v49, r49, rfl, h49⟩ := vs_cons r48 h48
  obtain ⟨v50, r50, rfl, h50⟩ := vs_cons r49 h49
  obtain ⟨v51, r51, rfl, h51⟩ := vs_cons r50 h50
  obtain ⟨v52, r52, rfl, h52⟩ := vs_cons r51 h51
  obtain ⟨v53, r53, rfl, h53⟩ := vs_cons r52 h52
  obtain ⟨v54, r54, rfl, h54⟩ := vs_cons r53 h53
  obtain ⟨v55, r55, rfl, h55⟩ := vs_cons r54 h54
  obtain ⟨v56, r56, rfl, h56⟩ := vs_cons r55 h55
  obtain ⟨v57, r57, rfl, h57⟩ := vs_cons r56 h56
  obtain ⟨v58, r58, rfl, h58⟩ := vs_cons r57 h57
  obtain ⟨v59, r59, rfl, h59⟩ := vs_cons r58 h58
  obtain rfl := List.eq_nil_of_length_eq_zero h59
  exact ⟨v0, v1, v2, v3, v4, v5, v6, v7, v8, v9, v10, v11, v12, v13, v14, v15, v16, v17, v18, v19, v20, v21, v22, v23, v24, v25, v26, v27, v28, v29, v30, v31, v32, v33, v34, v35, v36, v37, v38, v39, v40, v41, v42, v43, v44, v45, v46, v47, v48, v49, v50, v51, v52, v53, v54, v55, v56, v57, v58, v59, rfl⟩

theorem Try.infoRel : (Try.prog.info? 50).map (fun i => (i.zero, i.size, i.bytes)) = some (some (.agg zG.v.toArray), 8, 64) := by kernel_rfl
theorem gu_one (x : Gu) : ∀ u ∈ x.v, u.oneCell' = true := by
  intro u hu
  simp only [Gu.v, List.mem_cons, List.not_mem_nil, or_false] at hu
  rcases hu with rfl | rfl | rfl | rfl | rfl | rfl | rfl | rfl <;> rfl
namespace Gd
def any (t : Int) : Gu := ⟨-1, -1, 0, 0, 0, 0, -1, t⟩
theorem any_fine (t : Int) : (any t).fine := ⟨by show (0 : Nat) < _; decide, by show (0 : Nat) < _; decide⟩
theorem zero_holds (a : Nat) (h : a < 4294967296) : A.holds 0 0 a = true := by
  have e : a / 4294967296 = 0 := Nat.div_eq_of_lt h
  simp [A.holds, A.right, e]
theorem any_m (t : Int) (q : Q) (hq : q.fine) : (any t).m q = true := by
  simp [Gu.m, conds, any, U.fits, zero_holds _ hq.1, zero_holds _ hq.2]
theorem Gto_any_first (l : List Gu) (t : Int) (q : Q) (hq : q.fine) : Gto (any t :: l) q = t := by
  have h1 : Gfirst (any t :: l) q = ((0 : Nat) : Int) := U.first_some (p := fun k => (gu (any t :: l) k).m q) (by simp) (fun j hj => by omega) (any_m t q hq)
  rw [Gto_some h1]
  rfl
theorem Gto_nil (q : Q) : Gto [] q = q.l := Gto_none (by rfl)
theorem Gto_cons (r : Gu) (l : List Gu) (q : Q) : Gto (r :: l) q = if r.m q then r.to else Gto l q := by
  cases hm : r.m q
  · simp only [Bool.false_eq_true, if_false]
    rcases U.first_cases (fun k => (gu l k).m q) l.length with ⟨h1, h2⟩ | ⟨k, h1, h2, h3, h4⟩
    · have e1 : Gfirst (r :: l) q = -1 := U.first_none fun k hk => by
        cases k with
        | zero => exact hm
        | succ k => exact h2 k (by simpa using hk)
      rw [Gto_none e1, Gto_none h1]
    · have e1 : Gfirst (r :: l) q = ((k + 1 : Nat) : Int) := U.first_some (p := fun k => (gu (r :: l) k).m q) (by simpa using h2) (fun j hj => by
        cases j with
        | zero => exact hm
        | succ j => exact h3 j (by omega)) h4
      rw [Gto_some e1, Gto_some h1]
      rfl
  · have e1 : Gfirst (r :: l) q = ((0 : Nat) : Int) := U.first_some (p := fun k => (gu (r :: l) k).m q) (by simp) (fun j hj => by omega) hm
    rw [Gto_some e1]
    rfl
theorem Gto_filter (q : Q) : ∀ l : List Gu, Gto (l.filter fun r => r.m q) q = Gto l q
  | [] => rfl
  | r :: l => by
    have ih := Gto_filter q l
    rw [Gto_cons, List.filter_cons]
    cases hm : r.m q
    · simpa using ih
    · simp only [if_true]
      rw [Gto_cons, hm]
      simp
theorem take_more (l : List Gu) (q : Q) (k : Nat) (hk : k < l.length) : (l.take (k + 1)).filter (fun r => r.m q) = (l.take k).filter (fun r => r.m q) ++ (if (gu l k).m q then [gu l k] else []) := by
  have h := gu_get l k hk
  have e : l.take (k + 1) = l.take k ++ [gu l k] := by
    rw [List.take_add_one, h]
    rfl
  rw [e, List.filter_append]
  congr 1
  cases hm : (gu l k).m q <;> simp [hm]
end Gd

set_option maxHeartbeats 16000000 in
theorem gstays_law (a0 : Option Addr) (cap : Nat) (l : List Gu) (q : Gd.Q) (tq : Int) (w : World) (h : GRow w a0 l) (hf : GFine l) (hq : q.fine) :
    Calls Try.prog 9 #[.slice a0 l.length cap, .agg q.v.toArray, .int .i64 tq] w fun e w' => e = .returned (.bool true) ∧ Below w.heap.size w w' := by
  have hb0 := (Below.refl _ w).alloc (Nat.le_refl _) (.cells q.v.toArray 47)
  by_cases h60 : 60 < l.length
  · have h60' : (60 : Int) < (l.length : Int) := by omega
    obtain ⟨qi, ql, qp, qs, qd⟩ := q
    simp only [Q.v] at *
    go_enter Try.func9, Try.ntmps9
    go_wp2_with fail
    refine (guard_awake _).mono ?_
    rintro e wz ⟨rfl, hbz⟩
    have hbwz := hb0.trans (hbz.mono hb0.size)
    go_wp2
    go_ret
    exact ⟨rfl, hbwz⟩
  have h60' : ¬ (60 : Int) < (l.length : Int) := by omega
  have hl : l.length ≤ 1000000 := by omega
  have hl60 : l.length ≤ 60 := by omega
  have HR := Lib.hid h
  have HF := Lib.hid hf
  have HTO := Lib.hid (fun w' (hb : Below w.heap.size w w') => GTo_any a0 cap l q w' (h.below hb) hf hq hl)
  have hfa : GFine (any tq :: l) := fun x hx => by
    rcases List.mem_cons.1 hx with h1 | h1
    · rw [h1]; exact any_fine tq
    · exact hf x h1
  have HA := Lib.hid (fun ao cp w' (hR : GRow w' ao (any tq :: l)) => GTo_any ao cp (any tq :: l) q w' hR hfa hq (by simp; omega))
  rw [Gto_any_first l tq q hq, show (any tq :: l).length = 1 + l.length from by simp; omega] at HA
  have HNil := Lib.hid (fun w' => GTo_any none 0 [] q w' (RowsOf.nil _ _ _ _) (fun x hx => by cases hx) hq (by simp))
  rw [Gto_nil] at HNil
  have HRs := Lib.hid (fun ao cp w' (hR : GRow w' ao (l.filter fun r => r.m q)) => GTo_any ao cp (l.filter fun r => r.m q) q w' hR (fun x hx => hf x (List.mem_filter.1 hx).1) hq (Nat.le_trans (List.length_filter_le _ _) hl))
  rw [Gto_filter] at HRs
  have HTake := Lib.hid (fun k (hk : k < l.length) => take_more l q k hk)
  have HTl := Lib.hid (fun k => (show ((l.take k).filter fun r => r.m q).length ≤ 60 from Nat.le_trans (List.length_filter_le _ _) (by rw [List.length_take]; omega)))
  clear h hf h60 hfa hl
  generalize Gto l q = gt at *
  have HOne := Lib.hid (fun (g : Nat) (w' : World) (hk : w'.heap[g]? = some (.cells (any tq).v.toArray 50 (0, 0))) => (RowsOf.of_block (n := 8) (f := Gu.v) (l := [any tq]) (fun _ => rfl) (by simp) hk))
  obtain ⟨qi, ql, qp, qs, qd⟩ := q
  have Hqs := Lib.hid hq.1
  have Hqd := Lib.hid hq.2
  clear hq
  simp only [Q.v] at hb0 ⊢
  simp only [] at HTO HA HNil HRs
  simp only [any, Gu.v] at HOne
  have LA0 := Lib.hid (Lies.new w [.int .i64 qi, .int .i64 ql, .int .i64 qp, .int .u32 qs, .int .u32 qd] 47)
  go_enter Try.func9, Try.ntmps9
  go_upto_region 4 with fail
  generalize (w.alloc (.cells #[.int .i64 qi, .int .i64 ql, .int .i64 qp, .int .u32 qs, .int .u32 qd] 47)) = W0 at *
  have hnew : (W0.alloc (.cells #[.int .i64 (-1), .int .i64 (-1), .int .u32 0, .int .i64 0, .int .u32 0, .int .i64 0, .int .i64 (-1), .int .i64 tq] 50)).heap[W0.heap.size]? = some (.cells #[.int .i64 (-1), .int .i64 (-1), .int .u32 0, .int .i64 0, .int .u32 0, .int .i64 0, .int .i64 (-1), .int .i64 tq] 50 (0, 0)) := heap_alloc_new W0 _
  have hb5 : Below W0.heap.size W0 (W0.alloc (.cells #[.int .i64 (-1), .int .i64 (-1), .int .u32 0, .int .i64 0, .int .u32 0, .int .i64 0, .int .i64 (-1), .int .i64 tq] 50)) := (Below.refl _ W0).alloc (Nat.le_refl _) _
  obtain ⟨ao1, cp1, w2, hrun1, hown1, hg1, _⟩ := Own.appRows 50 45 _ 8 64 Try.underlying45 Try.infoRel rfl (by omega) (by omega) W0.heap.size none 0 0 [] _ (World.ownsRow_nil _ _ _ _) (some ⟨W0.heap.size, 0, none⟩) 1 [any tq] (HOne.out _ _ hnew) (fun _ => rfl) gu_one 45 (by simp) hb5.size
  simp only [List.length_cons, List.length_nil, Nat.zero_add, List.nil_append] at hrun1 hown1
  have hb2 : Below W0.heap.size W0 w2 := hb5.grown hg1 hb5.size (fun g hg => by cases hg)
  obtain ⟨ao2, cp2, w3, hrun2, hown2, hg2, _⟩ := Own.appRows 50 45 _ 8 64 Try.underlying45 Try.infoRel rfl (by omega) (by omega) W0.heap.size ao1 cp1 1 _ w2 hown1 a0 cap l (HR.out.below (hb0.trans (hb2.mono hb0.size))) (fun _ => rfl) gu_one 45 (by omega) hb2.size
  have hb3 : Below W0.heap.size W0 w3 := hb2.grown hg2 hb2.size hown1.low
  have hbw3 := hb0.trans (hb3.mono hb0.size)
  have Hrun1 := Lib.hid hrun1
  have Hrun2 := Lib.hid hrun2
  have HROW : Hid (GRow w3 ao2 (any tq :: l)) := Lib.hid (RowsOf.of_own hown2 (fun _ => rfl) (by simp) (by omega))
  have LA3 := Lib.hid (LA0.out.below hb3)
  have HN := Lib.hid HNil.out
  clear hrun1 hrun2 hown1 hown2 hg1 hg2 hb2 hb5 hnew HOne LA0 hb0 HNil
  go_wp2_with (first | (at_builtin; refine listAppend rfl _ _ _ _ rfl _ _ rfl rfl _ _ Hrun1.out ?_) | (at_builtin; refine listAppend rfl _ _ _ _ rfl _ _ rfl rfl _ _ Hrun2.out ?_))
  clear Hrun1 Hrun2
  go_loopw [8, 9] (fun s i wr => ∃ (k : Nat) (aoR : Option Addr) (cpR m : Nat), k ≤ l.length ∧ i = .int .i64 k ∧ s = .slice aoR m cpR ∧ Hid (m = ((l.take k).filter fun r => r.m ⟨qi, ql, qp, qs, qd⟩).length) ∧ Own w3.heap.size 50 8 aoR cpR m (((l.take k).filter fun r => r.m ⟨qi, ql, qp, qs, qd⟩).flatMap Gu.v) wr ∧ Below w3.heap.size w3 wr ∧ Below w.heap.size w wr) (fun _ i _ => l.length - (intOf i).toNat)
  case atStart => exact ⟨0, none, 0, 0, Nat.zero_le _, rfl, rfl, Lib.hid rfl, World.ownsRow_nil _ _ _ _, Below.refl _ _, hbw3⟩
  case round =>
    obtain ⟨k, aoR, cpR, m, hk, rfl, rfl, HMm, hown, hb, hbw⟩ := hrel
    by_cases hkl : k < l.length
    · have hkl2 : (k : Int) < (l.length : Int) := by omega
      obtain ⟨b, off, rfl, hbl, hL⟩ := (HR.out.below hbw).at k _ (gu_get l k hkl)
      have hfin := HF.out _ (gu_mem l k hkl)
      have HTk := Lib.hid (HTake.out k hkl)
      have hm60 : m ≤ 60 := by rw [HMm.out]; exact HTl.out k
      have LA := Lib.hid (LA3.out.below hb)
      have LR := Lib.hid hL
      have HO := Lib.hid hown
      clear hL hown
      generalize gu l k = r at *
      obtain ⟨i, lb, sa, sb, da, db, p, tt⟩ := r
      have Hsa := Lib.hid hfin.1
      have Hda := Lib.hid hfin.2
      simp only [Gu.v] at LR
      clear hfin
      go_wp2
      obtain ⟨m41, hm41⟩ : ∃ z_, ((⟨i, lb, sa, sb, da, db, p, tt⟩ : Gu).m ⟨qi, ql, qp, qs, qd⟩) = z_ := ⟨_, rfl⟩
      replace hm41 := Lib.hid hm41
      have C41 := Lib.hid (fun (w' : World) (hb : Below wr.heap.size wr w') => show Calls Try.prog 23 #[.agg #[.int .i64 i, .int .i64 lb, .int .u32 sa, .int .i64 sb, .int .u32 da, .int .i64 db, .int .i64 p, .int .i64 tt], .int .i64 qi, .int .i64 ql, .int .i64 qp, .int .u32 qs, .int .u32 qd] w' (fun e w'' => e = .returned (.bool m41) ∧ Below w'.heap.size w' w'') from (by rw [← hm41.out]; exact GMatches_any ⟨i, lb, sa, sb, da, db, p, tt⟩ ⟨qi, ql, qp, qs, qd⟩ w' ⟨Hsa.out, Hda.out⟩ ⟨Hqs.out, Hqd.out⟩))
      refine region_gen (VG wr.heap.size [.val (.slice (some ⟨b, off, none⟩) l.length cap), .val (.int .i64 k), .val (.pointer (some ⟨b, off + k * 8, none⟩)), .val (.agg #[.int .i64 i, .int .i64 lb, .int .u32 sa, .int .i64 sb, .int .u32 da, .int .i64 db, .int .i64 p, .int .i64 tt]), .val (.pointer (some ⟨w.heap.size, 0, none⟩)), .val (.int .i64 qi), .val (.pointer (some ⟨w.heap.size, 1, none⟩)), .val (.int .i64 ql), .val (.pointer (some ⟨w.heap.size, 2, none⟩)), .val (.int .i64 qp), .val (.pointer (some ⟨w.heap.size, 3, none⟩)), .val (.int .u32 qs), .val (.pointer (some ⟨w.heap.size, 4, none⟩)), .val (.int .u32 qd), .val (.bool m41)]) (BS wr) (by kernel_rfl) (by kernel_rfl) (Below.refl _ _).drew ⟨?_, ?_, ?_, ?_, ?_, ?_, ?_, ?_, ?_, ?_, ?_, ?_, ?_, ?_, ?_, trivial⟩ ?_
      · go_light; intro listed a' w' hs hS hun hdep
        have e0 : a'.eval (.tmp 0) = .slice (some ⟨b, off, none⟩) l.length cap := (hs.out 0 (by kernel_rfl)).trans (rfl)
        exact g_val (.slice (some ⟨b, off, none⟩) l.length cap) hS rfl (op_move rfl e0) rfl
      · go_light; intro listed a' w' hs hS hun hdep
        have e9 : a'.eval (.tmp 9) = .int .i64 k := (hs.out 9 (by kernel_rfl)).trans (rfl)
        exact g_val (.int .i64 k) hS rfl (op_move rfl e9) rfl
      · go_light; intro listed a' w' hs hS hun hdep
        have e27 : a'.eval (.tmp 27) = (.slice (some ⟨b, off, none⟩) l.length cap) := hs.eval 0 _ 27 rfl (hdep ⟨0, .data⟩ (by simp) rfl) rfl
        have e28 : a'.eval (.tmp 28) = (.int .i64 k) := hs.eval 1 _ 28 rfl (hdep ⟨1, .data⟩ (by simp) rfl) rfl
        exact g_val (.pointer (some ⟨b, off + k * 8, none⟩)) hS rfl (op_ixa rfl e27 e28 Try.underlying45 (by kernel_rfl) hkl) rfl
      · go_light; intro listed a' w' hs hS hun hdep
        have e29 : a'.eval (.tmp 29) = (.pointer (some ⟨b, off + k * 8, none⟩)) := hs.eval 2 _ 29 rfl (hdep ⟨2, .data⟩ (by simp) rfl) rfl
        exact g_val (.agg #[.int .i64 i, .int .i64 lb, .int .u32 sa, .int .i64 sb, .int .u32 da, .int .i64 db, .int .i64 p, .int .i64 tt]) hS rfl (op_ld [.int .i64 i, .int .i64 lb, .int .u32 sa, .int .i64 sb, .int .u32 da, .int .i64 db, .int .i64 p, .int .i64 tt] rfl e29 (LR.out.below hS) 0 (by first | rfl | simp) rfl Try.underlying50 rfl (by kernel_rfl)) rfl
      · go_light; intro listed a' w' hs hS hun hdep
        have e4 : a'.eval (.tmp 4) = .pointer (some ⟨w.heap.size, 0, none⟩) := (hs.out 4 (by kernel_rfl)).trans (rfl)
        refine g_val (.pointer (some ⟨w.heap.size, 0, none⟩)) hS rfl ?_ rfl
        have hcn := BigFrame.eval_const a'; have hfn := BigFrame.eval_func a'; clear hs hdep; generalize a'.eval = ev at *; go_simp
      · go_light; intro listed a' w' hs hS hun hdep
        have e31 : a'.eval (.tmp 31) = (.pointer (some ⟨w.heap.size, 0, none⟩)) := hs.eval 4 _ 31 rfl (hdep ⟨4, .data⟩ (by simp) rfl) rfl
        exact g_val (.int .i64 qi) hS rfl (op_ld1 (.int .i64 qi) rfl e31 (LA.out.below hS) 0 (by first | rfl | simp) rfl Try.underlying3 rfl) rfl
      · go_light; intro listed a' w' hs hS hun hdep
        have e4 : a'.eval (.tmp 4) = .pointer (some ⟨w.heap.size, 0, none⟩) := (hs.out 4 (by kernel_rfl)).trans (rfl)
        refine g_val (.pointer (some ⟨w.heap.size, 1, none⟩)) hS rfl ?_ rfl
        have hcn := BigFrame.eval_const a'; have hfn := BigFrame.eval_func a'; clear hs hdep; generalize a'.eval = ev at *; go_simp
      · go_light; intro listed a' w' hs hS hun hdep
        have e33 : a'.eval (.tmp 33) = (.pointer (some ⟨w.heap.size, 1, none⟩)) := hs.eval 6 _ 33 rfl (hdep ⟨6, .data⟩ (by simp) rfl) rfl
        exact g_val (.int .i64 ql) hS rfl (op_ld1 (.int .i64 ql) rfl e33 (LA.out.below hS) 1 (by first | rfl | simp) rfl Try.underlying3 rfl) rfl
      · go_light; intro listed a' w' hs hS hun hdep
        have e4 : a'.eval (.tmp 4) = .pointer (some ⟨w.heap.size, 0, none⟩) := (hs.out 4 (by kernel_rfl)).trans (rfl)
        refine g_val (.pointer (some ⟨w.heap.size, 2, none⟩)) hS rfl ?_ rfl
        have hcn := BigFrame.eval_const a'; have hfn := BigFrame.eval_func a'; clear hs hdep; generalize a'.eval = ev at *; go_simp
      · go_light; intro listed a' w' hs hS hun hdep
        have e35 : a'.eval (.tmp 35) = (.pointer (some ⟨w.heap.size, 2, none⟩)) := hs.eval 8 _ 35 rfl (hdep ⟨8, .data⟩ (by simp) rfl) rfl
        exact g_val (.int .i64 qp) hS rfl (op_ld1 (.int .i64 qp) rfl e35 (LA.out.below hS) 2 (by first | rfl | simp) rfl Try.underlying3 rfl) rfl
      · go_light; intro listed a' w' hs hS hun hdep
        have e4 : a'.eval (.tmp 4) = .pointer (some ⟨w.heap.size, 0, none⟩) := (hs.out 4 (by kernel_rfl)).trans (rfl)
        refine g_val (.pointer (some ⟨w.heap.size, 3, none⟩)) hS rfl ?_ rfl
        have hcn := BigFrame.eval_const a'; have hfn := BigFrame.eval_func a'; clear hs hdep; generalize a'.eval = ev at *; go_simp
      · go_light; intro listed a' w' hs hS hun hdep
        have e37 : a'.eval (.tmp 37) = (.pointer (some ⟨w.heap.size, 3, none⟩)) := hs.eval 10 _ 37 rfl (hdep ⟨10, .data⟩ (by simp) rfl) rfl
        exact g_val (.int .u32 qs) hS rfl (op_ld1 (.int .u32 qs) rfl e37 (LA.out.below hS) 3 (by first | rfl | simp) rfl Try.underlying23 rfl) rfl
      · go_light; intro listed a' w' hs hS hun hdep
        have e4 : a'.eval (.tmp 4) = .pointer (some ⟨w.heap.size, 0, none⟩) := (hs.out 4 (by kernel_rfl)).trans (rfl)
        refine g_val (.pointer (some ⟨w.heap.size, 4, none⟩)) hS rfl ?_ rfl
        have hcn := BigFrame.eval_const a'; have hfn := BigFrame.eval_func a'; clear hs hdep; generalize a'.eval = ev at *; go_simp
      · go_light; intro listed a' w' hs hS hun hdep
        have e39 : a'.eval (.tmp 39) = (.pointer (some ⟨w.heap.size, 4, none⟩)) := hs.eval 12 _ 39 rfl (hdep ⟨12, .data⟩ (by simp) rfl) rfl
        exact g_val (.int .u32 qd) hS rfl (op_ld1 (.int .u32 qd) rfl e39 (LA.out.below hS) 4 (by first | rfl | simp) rfl Try.underlying23 rfl) rfl
      · go_light; intro listed a' w' hs hS hun hdep
        have e30 : a'.eval (.tmp 30) = (.agg #[.int .i64 i, .int .i64 lb, .int .u32 sa, .int .i64 sb, .int .u32 da, .int .i64 db, .int .i64 p, .int .i64 tt]) := hs.eval 3 _ 30 rfl (hdep ⟨3, .data⟩ (by simp) rfl) rfl
        have e32 : a'.eval (.tmp 32) = (.int .i64 qi) := hs.eval 5 _ 32 rfl (hdep ⟨5, .data⟩ (by simp) rfl) rfl
        have e34 : a'.eval (.tmp 34) = (.int .i64 ql) := hs.eval 7 _ 34 rfl (hdep ⟨7, .data⟩ (by simp) rfl) rfl
        have e36 : a'.eval (.tmp 36) = (.int .i64 qp) := hs.eval 9 _ 36 rfl (hdep ⟨9, .data⟩ (by simp) rfl) rfl
        have e38 : a'.eval (.tmp 38) = (.int .u32 qs) := hs.eval 11 _ 38 rfl (hdep ⟨11, .data⟩ (by simp) rfl) rfl
        have e40 : a'.eval (.tmp 40) = (.int .u32 qd) := hs.eval 13 _ 40 rfl (hdep ⟨13, .data⟩ (by simp) rfl) rfl
        refine g_call 23 #[.agg #[.int .i64 i, .int .i64 lb, .int .u32 sa, .int .i64 sb, .int .u32 da, .int .i64 db, .int .i64 p, .int .i64 tt], .int .i64 qi, .int .i64 ql, .int .i64 qp, .int .u32 qs, .int .u32 qd] hS rfl ?_ ?_
        · have hcn := BigFrame.eval_const a'; have hfn := BigFrame.eval_func a'; clear hs hdep; generalize a'.eval = ev at *; go_simp
        · exact c_val (C41.out w' hS) rfl
      · intro vs w4 hlen hV listed hall hS
        obtain ⟨v0, v1, v2, v3, v4, v5, v6, v7, v8, v9, v10, v11, v12, v13, v14, rfl⟩ := vs_15 vs (hlen.trans rfl)
        have q0 : v0 = .slice (some ⟨b, off, none⟩) l.length cap := hV 0 _ rfl
        have q1 : v1 = .int .i64 k := hV 1 _ rfl
        have q2 : v2 = .pointer (some ⟨b, off + k * 8, none⟩) := hV 2 _ rfl
        have q3 : v3 = .agg #[.int .i64 i, .int .i64 lb, .int .u32 sa, .int .i64 sb, .int .u32 da, .int .i64 db, .int .i64 p, .int .i64 tt] := hV 3 _ rfl
        have q4 : v4 = .pointer (some ⟨w.heap.size, 0, none⟩) := hV 4 _ rfl
        have q5 : v5 = .int .i64 qi := hV 5 _ rfl
        have q6 : v6 = .pointer (some ⟨w.heap.size, 1, none⟩) := hV 6 _ rfl
        have q7 : v7 = .int .i64 ql := hV 7 _ rfl
        have q8 : v8 = .pointer (some ⟨w.heap.size, 2, none⟩) := hV 8 _ rfl
        have q9 : v9 = .int .i64 qp := hV 9 _ rfl
        have q10 : v10 = .pointer (some ⟨w.heap.size, 3, none⟩) := hV 10 _ rfl
        have q11 : v11 = .int .u32 qs := hV 11 _ rfl
        have q12 : v12 = .pointer (some ⟨w.heap.size, 4, none⟩) := hV 12 _ rfl
        have q13 : v13 = .int .u32 qd := hV 13 _ rfl
        have q14 : v14 = .bool m41 := hV 14 _ rfl
        have hbel : Below wr.heap.size wr w4 := hS
        subst q0 q1 q2 q3 q4 q5 q6 q7 q8 q9 q10 q11 q12 q13 q14
        clear hV hS hlen hall
        clear listed
        simp only [lays, Act.put, List.setIfInBounds_toArray, List.set_cons_zero, List.set_cons_succ]
        have LR4 := Lib.hid (LR.out.below hbel)
        have HO4 := Lib.hid (Own.carry HO.out hbel)
        have hb4 := hb.trans (hbel.mono hb.size)
        have hbw4 := hbw.trans (hbel.mono hbw.size)
        rw [hm41.out] at HTk
        clear hbel hb hbw LR LA HO hm41 C41
        cases m41
        · have HM2 : Hid (m = ((l.take (k + 1)).filter fun r => r.m ⟨qi, ql, qp, qs, qd⟩).length) := Lib.hid (by rw [HTk.out, HMm.out]; simp)
          have HO5 : Hid (Own w3.heap.size 50 8 aoR cpR m (((l.take (k + 1)).filter fun r => r.m ⟨qi, ql, qp, qs, qd⟩).flatMap Gu.v) w4) := Lib.hid (by rw [HTk.out]; simpa using HO4.out)
          go_wp2
          go_roundw
          case rel => exact ⟨k + 1, aoR, cpR, m, by omega, by go_num, rfl, HM2, HO5.out, hb4, hbw4⟩
          case measure => simp [intOf]; omega
        · have hbs4 := hb4.size
          have hnew : (w4.alloc (.cells #[.int .i64 i, .int .i64 lb, .int .u32 sa, .int .i64 sb, .int .u32 da, .int .i64 db, .int .i64 p, .int .i64 tt] 50)).heap[w4.heap.size]? = some (.cells #[.int .i64 i, .int .i64 lb, .int .u32 sa, .int .i64 sb, .int .u32 da, .int .i64 db, .int .i64 p, .int .i64 tt] 50 (0, 0)) := heap_alloc_new w4 _
          have hrow1 : GRow (w4.alloc (.cells #[.int .i64 i, .int .i64 lb, .int .u32 sa, .int .i64 sb, .int .u32 da, .int .i64 db, .int .i64 p, .int .i64 tt] 50)) (some ⟨w4.heap.size, 0, none⟩) [(⟨i, lb, sa, sb, da, db, p, tt⟩ : Gu)] := RowsOf.of_block (fun _ => rfl) (by simp [Gu.v]) hnew
          obtain ⟨ao', cp', w5, hrun, hown5, hg5, _⟩ := Own.appRows 50 45 _ 8 64 Try.underlying45 Try.infoRel rfl (by omega) (by omega) w3.heap.size aoR cpR m _ _ (World.ownsRow.alloc HO4.out (.cells #[.int .i64 i, .int .i64 lb, .int .u32 sa, .int .i64 sb, .int .u32 da, .int .i64 db, .int .i64 p, .int .i64 tt] 50)) (some ⟨w4.heap.size, 0, none⟩) 1 [(⟨i, lb, sa, sb, da, db, p, tt⟩ : Gu)] hrow1 (fun _ => rfl) gu_one 45 (by simp; omega) (by simp; omega)
          have hb5 : Below w3.heap.size w3 w5 := (hb4.alloc hbs4 _).grown hg5 (by simp; omega) HO4.out.low
          have hbw5 := hbw3.trans (hb5.mono hbw3.size)
          have HM2 : Hid (m + 1 = ((l.take (k + 1)).filter fun r => r.m ⟨qi, ql, qp, qs, qd⟩).length) := Lib.hid (by rw [HTk.out, HMm.out]; simp)
          have HO5 : Hid (Own w3.heap.size 50 8 ao' cp' (m + 1) (((l.take (k + 1)).filter fun r => r.m ⟨qi, ql, qp, qs, qd⟩).flatMap Gu.v) w5) := Lib.hid (by rw [HTk.out]; simpa using hown5)
          have Hrun := Lib.hid hrun
          clear hrun hown5 hg5 hnew hrow1 hb4 hbw4
          have c0 := LR4.out.at0 0 _ _ rfl rfl
          have c1 := LR4.out.at0 1 _ _ rfl rfl
          have c2 := LR4.out.at0 2 _ _ rfl rfl
          have c3 := LR4.out.at0 3 _ _ rfl rfl
          have c4 := LR4.out.at0 4 _ _ rfl rfl
          have c5 := LR4.out.at0 5 _ _ rfl rfl
          have c6 := LR4.out.at0 6 _ _ rfl rfl
          have c7 := LR4.out.at0 7 _ _ rfl rfl
          simp only [Nat.add_zero] at c0
          go_wp2_with (at_builtin; refine listAppend rfl _ _ _ _ rfl _ _ rfl rfl _ _ Hrun.out ?_)
          go_roundw
          case rel => exact ⟨k + 1, ao', cp', m + 1, by omega, by go_num, rfl, HM2, HO5.out, hb5, hbw5⟩
          case measure => simp [intOf]; omega
    · obtain rfl : k = l.length := by omega
      have hge : ¬ (l.length : Int) < (l.length : Int) := by omega
      have LA := Lib.hid (LA3.out.below hb)
      rw [List.take_length] at HMm hown
      have hrow : GRow wr aoR (l.filter fun r => r.m ⟨qi, ql, qp, qs, qd⟩) := RowsOf.of_own hown (fun _ => rfl) rfl (by omega)
      have HALL := Lib.hid (fun w' (h : Below wr.heap.size wr w') => HA.out ao2 cp2 w' ((HROW.out.below hb).below h))
      have HRS := Lib.hid (fun w' (h : Below wr.heap.size wr w') => HRs.out aoR cpR w' (hrow.below h))
      rw [← HMm.out] at HRS
      clear hown hrow HMm HA HRs HROW LA3 hb HTake HTl
      go_wp2
      have C59 := Lib.hid (fun (w' : World) (hb : Below wr.heap.size wr w') => show Calls Try.prog 26 #[Value.slice none 0 0, .int .i64 qi, .int .i64 ql, .int .i64 qp, .int .u32 qs, .int .u32 qd] w' (fun e w'' => e = .returned (.int .i64 ql) ∧ Below w'.heap.size w' w'') from (by exact HN.out w'))
      obtain ⟨m62, hm62⟩ : ∃ z_, (ql == ql) = z_ := ⟨_, rfl⟩
      replace hm62 := Lib.hid hm62
      have C75 := Lib.hid (fun (w' : World) (hb : Below wr.heap.size wr w') => show Calls Try.prog 26 #[.slice ao2 (1 + l.length) cp2, .int .i64 qi, .int .i64 ql, .int .i64 qp, .int .u32 qs, .int .u32 qd] w' (fun e w'' => e = .returned (.int .i64 tq) ∧ Below w'.heap.size w' w'') from (by exact HALL.out w' hb))
      obtain ⟨m77, hm77⟩ : ∃ z_, (tq == tq) = z_ := ⟨_, rfl⟩
      replace hm77 := Lib.hid hm77
      obtain ⟨m78, hm78⟩ : ∃ z_, (m62 && m77) = z_ := ⟨_, rfl⟩
      replace hm78 := Lib.hid hm78
      have C91 := Lib.hid (fun (w' : World) (hb : Below wr.heap.size wr w') => show Calls Try.prog 26 #[.slice aoR m cpR, .int .i64 qi, .int .i64 ql, .int .i64 qp, .int .u32 qs, .int .u32 qd] w' (fun e w'' => e = .returned (.int .i64 gt) ∧ Below w'.heap.size w' w'') from (by exact HRS.out w' hb))
      have C103 := Lib.hid (fun (w' : World) (hb : Below wr.heap.size wr w') => show Calls Try.prog 26 #[.slice a0 l.length cap, .int .i64 qi, .int .i64 ql, .int .i64 qp, .int .u32 qs, .int .u32 qd] w' (fun e w'' => e = .returned (.int .i64 gt) ∧ Below w'.heap.size w' w'') from (by exact HTO.out w' (hbw.trans (hb.mono hbw.size))))
      obtain ⟨m104, hm104⟩ : ∃ z_, (gt == gt) = z_ := ⟨_, rfl⟩
      replace hm104 := Lib.hid hm104
      obtain ⟨m105, hm105⟩ : ∃ z_, (m78 && m104) = z_ := ⟨_, rfl⟩
      replace hm105 := Lib.hid hm105
      have C107 := Lib.hid (fun (w' : World) (hb : Below wr.heap.size wr w') => show Calls Try.prog 21 #[] w' (fun e w'' => e = .returned (.bool true) ∧ Below w'.heap.size w' w'') from (by exact guard_awake w'))
      obtain ⟨m108, hm108⟩ : ∃ z_, (m105 && true) = z_ := ⟨_, rfl⟩
      replace hm108 := Lib.hid hm108
      refine region_gen_tail 60 (VG wr.heap.size [.val (.pointer (some ⟨w.heap.size, 0, none⟩)), .val (.int .i64 qi), .val (.pointer (some ⟨w.heap.size, 1, none⟩)), .val (.int .i64 ql), .val (.pointer (some ⟨w.heap.size, 2, none⟩)), .val (.int .i64 qp), .val (.pointer (some ⟨w.heap.size, 3, none⟩)), .val (.int .u32 qs), .val (.pointer (some ⟨w.heap.size, 4, none⟩)), .val (.int .u32 qd), .val (.int .i64 ql), .val (.pointer (some ⟨w.heap.size, 1, none⟩)), .val (.int .i64 ql), .val (.bool m62), .val (.bool m62), .val (if m62 = true then .slice ao2 (1 + l.length) cp2 else undef), .val (if m62 = true then .pointer (some ⟨w.heap.size, 0, none⟩) else undef), .val (if m62 = true then .int .i64 qi else undef), .val (if m62 = true then .pointer (some ⟨w.heap.size, 1, none⟩) else undef), .val (if m62 = true then .int .i64 ql else undef), .val (if m62 = true then .pointer (some ⟨w.heap.size, 2, none⟩) else undef), .val (if m62 = true then .int .i64 qp else undef), .val (if m62 = true then .pointer (some ⟨w.heap.size, 3, none⟩) else undef), .val (if m62 = true then .int .u32 qs else undef), .val (if m62 = true then .pointer (some ⟨w.heap.size, 4, none⟩) else undef), .val (if m62 = true then .int .u32 qd else undef), .val (if m62 = true then .int .i64 tq else undef), .val (if m62 = true then .int .i64 tq else undef), .val (if m62 = true then .bool m77 else undef), .val (.bool m78), .val (.bool m78), .val (if m78 = true then .slice aoR m cpR else undef), .val (if m78 = true then .pointer (some ⟨w.heap.size, 0, none⟩) else undef), .val (if m78 = true then .int .i64 qi else undef), .val (if m78 = true then .pointer (some ⟨w.heap.size, 1, none⟩) else undef), .val (if m78 = true then .int .i64 ql else undef), .val (if m78 = true then .pointer (some ⟨w.heap.size, 2, none⟩) else undef), .val (if m78 = true then .int .i64 qp else undef), .val (if m78 = true then .pointer (some ⟨w.heap.size, 3, none⟩) else undef), .val (if m78 = true then .int .u32 qs else undef), .val (if m78 = true then .pointer (some ⟨w.heap.size, 4, none⟩) else undef), .val (if m78 = true then .int .u32 qd else undef), .val (if m78 = true then .int .i64 gt else undef), .val (if m78 = true then .slice a0 l.length cap else undef), .val (if m78 = true then .pointer (some ⟨w.heap.size, 0, none⟩) else undef), .val (if m78 = true then .int .i64 qi else undef), .val (if m78 = true then .pointer (some ⟨w.heap.size, 1, none⟩) else undef), .val (if m78 = true then .int .i64 ql else undef), .val (if m78 = true then .pointer (some ⟨w.heap.size, 2, none⟩) else undef), .val (if m78 = true then .int .i64 qp else undef), .val (if m78 = true then .pointer (some ⟨w.heap.size, 3, none⟩) else undef), .val (if m78 = true then .int .u32 qs else undef), .val (if m78 = true then .pointer (some ⟨w.heap.size, 4, none⟩) else undef), .val (if m78 = true then .int .u32 qd else undef), .val (if m78 = true then .int .i64 gt else undef), .val (if m78 = true then .bool m104 else undef), .val (.bool m105), .val (.bool m105), .val (if m105 = true then .bool true else undef), .val (.bool m108)]) (BS wr) (by kernel_rfl) (by kernel_rfl) (by kernel_rfl) (Below.refl _ _).drew ⟨?_, ?_, ?_, ?_, ?_, ?_, ?_, ?_, ?_, ?_, ?_, ?_, ?_, ?_, ?_, ?_, ?_, ?_, ?_, ?_, ?_, ?_, ?_, ?_, ?_, ?_, ?_, ?_, ?_, ?_, ?_, ?_, ?_, ?_, ?_, ?_, ?_, ?_, ?_, ?_, ?_, ?_, ?_, ?_, ?_, ?_, ?_, ?_, ?_, ?_, ?_, ?_, ?_, ?_, ?_, ?_, ?_, ?_, ?_, ?_, trivial⟩ ?_
      · go_light; intro listed a' w' hs hS hun hdep
        have e4 : a'.eval (.tmp 4) = .pointer (some ⟨w.heap.size, 0, none⟩) := (hs.out 4 (by kernel_rfl)).trans (rfl)
        refine g_val (.pointer (some ⟨w.heap.size, 0, none⟩)) hS rfl ?_ rfl
        have hcn := BigFrame.eval_const a'; have hfn := BigFrame.eval_func a'; clear hs hdep; generalize a'.eval = ev at *; go_simp
      · go_light; intro listed a' w' hs hS hun hdep
        have e49 : a'.eval (.tmp 49) = (.pointer (some ⟨w.heap.size, 0, none⟩)) := hs.eval 0 _ 49 rfl (hdep ⟨0, .data⟩ (by simp) rfl) rfl
        exact g_val (.int .i64 qi) hS rfl (op_ld1 (.int .i64 qi) rfl e49 (LA.out.below hS) 0 (by first | rfl | simp) rfl Try.underlying3 rfl) rfl
      · go_light; intro listed a' w' hs hS hun hdep
        have e4 : a'.eval (.tmp 4) = .pointer (some ⟨w.heap.size, 0, none⟩) := (hs.out 4 (by kernel_rfl)).trans (rfl)
        refine g_val (.pointer (some ⟨w.heap.size, 1, none⟩)) hS rfl ?_ rfl
        have hcn := BigFrame.eval_const a'; have hfn := BigFrame.eval_func a'; clear hs hdep; generalize a'.eval = ev at *; go_simp
      · go_light; intro listed a' w' hs hS hun hdep
        have e51 : a'.eval (.tmp 51) = (.pointer (some ⟨w.heap.size, 1, none⟩)) := hs.eval 2 _ 51 rfl (hdep ⟨2, .data⟩ (by simp) rfl) rfl
        exact g_val (.int .i64 ql) hS rfl (op_ld1 (.int .i64 ql) rfl e51 (LA.out.below hS) 1 (by first | rfl | simp) rfl Try.underlying3 rfl) rfl
      · go_light; intro listed a' w' hs hS hun hdep
        have e4 : a'.eval (.tmp 4) = .pointer (some ⟨w.heap.size, 0, none⟩) := (hs.out 4 (by kernel_rfl)).trans (rfl)
        refine g_val (.pointer (some ⟨w.heap.size, 2, none⟩)) hS rfl ?_ rfl
        have hcn := BigFrame.eval_const a'; have hfn := BigFrame.eval_func a'; clear hs hdep; generalize a'.eval = ev at *; go_simp
      · go_light; intro listed a' w' hs hS hun hdep
        have e53 : a'.eval (.tmp 53) = (.pointer (some ⟨w.heap.size, 2, none⟩)) := hs.eval 4 _ 53 rfl (hdep ⟨4, .data⟩ (by simp) rfl) rfl
        exact g_val (.int .i64 qp) hS rfl (op_ld1 (.int .i64 qp) rfl e53 (LA.out.below hS) 2 (by first | rfl | simp) rfl Try.underlying3 rfl) rfl
      · go_light; intro listed a' w' hs hS hun hdep
        have e4 : a'.eval (.tmp 4) = .pointer (some ⟨w.heap.size, 0, none⟩) := (hs.out 4 (by kernel_rfl)).trans (rfl)
        refine g_val (.pointer (some ⟨w.heap.size, 3, none⟩)) hS rfl ?_ rfl
        have hcn := BigFrame.eval_const a'; have hfn := BigFrame.eval_func a'; clear hs hdep; generalize a'.eval = ev at *; go_simp
      · go_light; intro listed a' w' hs hS hun hdep
        have e55 : a'.eval (.tmp 55) = (.pointer (some ⟨w.heap.size, 3, none⟩)) := hs.eval 6 _ 55 rfl (hdep ⟨6, .data⟩ (by simp) rfl) rfl
        exact g_val (.int .u32 qs) hS rfl (op_ld1 (.int .u32 qs) rfl e55 (LA.out.below hS) 3 (by first | rfl | simp) rfl Try.underlying23 rfl) rfl
      · go_light; intro listed a' w' hs hS hun hdep
        have e4 : a'.eval (.tmp 4) = .pointer (some ⟨w.heap.size, 0, none⟩) := (hs.out 4 (by kernel_rfl)).trans (rfl)
        refine g_val (.pointer (some ⟨w.heap.size, 4, none⟩)) hS rfl ?_ rfl
        have hcn := BigFrame.eval_const a'; have hfn := BigFrame.eval_func a'; clear hs hdep; generalize a'.eval = ev at *; go_simp
      · go_light; intro listed a' w' hs hS hun hdep
        have e57 : a'.eval (.tmp 57) = (.pointer (some ⟨w.heap.size, 4, none⟩)) := hs.eval 8 _ 57 rfl (hdep ⟨8, .data⟩ (by simp) rfl) rfl
        exact g_val (.int .u32 qd) hS rfl (op_ld1 (.int .u32 qd) rfl e57 (LA.out.below hS) 4 (by first | rfl | simp) rfl Try.underlying23 rfl) rfl
      · go_light; intro listed a' w' hs hS hun hdep
        have e50 : a'.eval (.tmp 50) = (.int .i64 qi) := hs.eval 1 _ 50 rfl (hdep ⟨1, .data⟩ (by simp) rfl) rfl
        have e52 : a'.eval (.tmp 52) = (.int .i64 ql) := hs.eval 3 _ 52 rfl (hdep ⟨3, .data⟩ (by simp) rfl) rfl
        have e54 : a'.eval (.tmp 54) = (.int .i64 qp) := hs.eval 5 _ 54 rfl (hdep ⟨5, .data⟩ (by simp) rfl) rfl
        have e56 : a'.eval (.tmp 56) = (.int .u32 qs) := hs.eval 7 _ 56 rfl (hdep ⟨7, .data⟩ (by simp) rfl) rfl
        have e58 : a'.eval (.tmp 58) = (.int .u32 qd) := hs.eval 9 _ 58 rfl (hdep ⟨9, .data⟩ (by simp) rfl) rfl
        refine g_call 26 #[Value.slice none 0 0, .int .i64 qi, .int .i64 ql, .int .i64 qp, .int .u32 qs, .int .u32 qd] hS rfl ?_ ?_
        · have hcn := BigFrame.eval_const a'; have hfn := BigFrame.eval_func a'; clear hs hdep; generalize a'.eval = ev at *; go_simp
        · exact c_val (C59.out w' hS) rfl
      · go_light; intro listed a' w' hs hS hun hdep
        have e4 : a'.eval (.tmp 4) = .pointer (some ⟨w.heap.size, 0, none⟩) := (hs.out 4 (by kernel_rfl)).trans (rfl)
        refine g_val (.pointer (some ⟨w.heap.size, 1, none⟩)) hS rfl ?_ rfl
        have hcn := BigFrame.eval_const a'; have hfn := BigFrame.eval_func a'; clear hs hdep; generalize a'.eval = ev at *; go_simp
      · go_light; intro listed a' w' hs hS hun hdep
        have e60 : a'.eval (.tmp 60) = (.pointer (some ⟨w.heap.size, 1, none⟩)) := hs.eval 11 _ 60 rfl (hdep ⟨11, .data⟩ (by simp) rfl) rfl
        exact g_val (.int .i64 ql) hS rfl (op_ld1 (.int .i64 ql) rfl e60 (LA.out.below hS) 1 (by first | rfl | simp) rfl Try.underlying3 rfl) rfl
      · go_light; intro listed a' w' hs hS hun hdep
        have e59 : a'.eval (.tmp 59) = (.int .i64 ql) := hs.eval 10 _ 59 rfl (hdep ⟨10, .data⟩ (by simp) rfl) rfl
        have e61 : a'.eval (.tmp 61) = (.int .i64 ql) := hs.eval 12 _ 61 rfl (hdep ⟨12, .data⟩ (by simp) rfl) rfl
        refine g_val (.bool m62) hS rfl ?_ rfl
        rw [← hm62.out]
        have hcn := BigFrame.eval_const a'; have hfn := BigFrame.eval_func a'; clear hs hdep; generalize a'.eval = ev at *; go_simp; try rfl
      · go_light; intro listed a' w' hs hS hun hdep
        have e62 : a'.eval (.tmp 62) = (.bool m62) := hs.eval 13 _ 62 rfl (hdep ⟨13, .data⟩ (by simp) rfl) rfl
        exact g_val (.bool m62) hS rfl (op_move rfl e62) rfl
      · go_light; intro listed a' w' hs hS hun hdep
        have eg : a'.eval (.tmp 63) = (.bool m62) := hs.eval 14 _ 63 rfl (hdep ⟨14, .guard⟩ (by simp) rfl) rfl
        have e7 : a'.eval (.tmp 7) = .slice ao2 (1 + l.length) cp2 := (hs.out 7 (by kernel_rfl)).trans (rfl)
        cases m62
        · exact g_not hS (wanted_no rfl rfl rfl eg (by decide)) rfl
        · exact g_val (.slice ao2 (1 + l.length) cp2) hS (wanted_yes rfl rfl rfl eg) (op_move rfl e7) rfl
      · go_light; intro listed a' w' hs hS hun hdep
        have eg : a'.eval (.tmp 63) = (.bool m62) := hs.eval 14 _ 63 rfl (hdep ⟨14, .guard⟩ (by simp) rfl) rfl
        have e4 : a'.eval (.tmp 4) = .pointer (some ⟨w.heap.size, 0, none⟩) := (hs.out 4 (by kernel_rfl)).trans (rfl)
        cases m62
        · exact g_not hS (wanted_no rfl rfl rfl eg (by decide)) rfl
        · refine g_val (.pointer (some ⟨w.heap.size, 0, none⟩)) hS (wanted_yes rfl rfl rfl eg) ?_ rfl
          have hcn := BigFrame.eval_const a'; have hfn := BigFrame.eval_func a'; clear hs hdep; generalize a'.eval = ev at *; go_simp
      · go_light; intro listed a' w' hs hS hun hdep
        have eg : a'.eval (.tmp 63) = (.bool m62) := hs.eval 14 _ 63 rfl (hdep ⟨14, .guard⟩ (by simp) rfl) rfl
        have e65 : a'.eval (.tmp 65) = (if m62 = true then .pointer (some ⟨w.heap.size, 0, none⟩) else undef) := hs.eval 16 _ 65 rfl (hdep ⟨16, .data⟩ (by simp) rfl) rfl
        cases m62
        · exact g_not hS (wanted_no rfl rfl rfl eg (by decide)) rfl
        · replace e65 := e65.trans (if_pos rfl)
          exact g_val (.int .i64 qi) hS (wanted_yes rfl rfl rfl eg) (op_ld1 (.int .i64 qi) rfl e65 (LA.out.below hS) 0 (by first | rfl | simp) rfl Try.underlying3 rfl) rfl
      · go_light; intro listed a' w' hs hS hun hdep
        have eg : a'.eval (.tmp 63) = (.bool m62) := hs.eval 14 _ 63 rfl (hdep ⟨14, .guard⟩ (by simp) rfl) rfl
        have e4 : a'.eval (.tmp 4) = .pointer (some ⟨w.heap.size, 0, none⟩) := (hs.out 4 (by kernel_rfl)).trans (rfl)
        cases m62
        · exact g_not hS (wanted_no rfl rfl rfl eg (by decide)) rfl
        · refine g_val (.pointer (some ⟨w.heap.size, 1, none⟩)) hS (wanted_yes rfl rfl rfl eg) ?_ rfl
          have hcn := BigFrame.eval_const a'; have hfn := BigFrame.eval_func a'; clear hs hdep; generalize a'.eval = ev at *; go_simp
      · go_light; intro listed a' w' hs hS hun hdep
        have eg : a'.eval (.tmp 63) = (.bool m62) := hs.eval 14 _ 63 rfl (hdep ⟨14, .guard⟩ (by simp) rfl) rfl
        have e67 : a'.eval (.tmp 67) = (if m62 = true then .pointer (some ⟨w.heap.size, 1, none⟩) else undef) := hs.eval 18 _ 67 rfl (hdep ⟨18, .data⟩ (by simp) rfl) rfl
        cases m62
        · exact g_not hS (wanted_no rfl rfl rfl eg (by decide)) rfl
        · replace e67 := e67.trans (if_pos rfl)
          exact g_val (.int .i64 ql) hS (wanted_yes rfl rfl rfl eg) (op_ld1 (.int .i64 ql) rfl e67 (LA.out.below hS) 1 (by first | rfl | simp) rfl Try.underlying3 rfl) rfl
      · go_light; intro listed a' w' hs hS hun hdep
        have eg : a'.eval (.tmp 63) = (.bool m62) := hs.eval 14 _ 63 rfl (hdep ⟨14, .guard⟩ (by simp) rfl) rfl
        have e4 : a'.eval (.tmp 4) = .pointer (some ⟨w.heap.size, 0, none⟩) := (hs.out 4 (by kernel_rfl)).trans (rfl)
        cases m62
        · exact g_not hS (wanted_no rfl rfl rfl eg (by decide)) rfl
        · refine g_val (.pointer (some ⟨w.heap.size, 2, none⟩)) hS (wanted_yes rfl rfl rfl eg) ?_ rfl
          have hcn := BigFrame.eval_const a'; have hfn := BigFrame.eval_func a'; clear hs hdep; generalize a'.eval = ev at *; go_simp
      · go_light; intro listed a' w' hs hS hun hdep
        have eg : a'.eval (.tmp 63) = (.bool m62) := hs.eval 14 _ 63 rfl (hdep ⟨14, .guard⟩ (by simp) rfl) rfl
        have e69 : a'.eval (.tmp 69) = (if m62 = true then .pointer (some ⟨w.heap.size, 2, none⟩) else undef) := hs.eval 20 _ 69 rfl (hdep ⟨20, .data⟩ (by simp) rfl) rfl
        cases m62
        · exact g_not hS (wanted_no rfl rfl rfl eg (by decide)) rfl
        · replace e69 := e69.trans (if_pos rfl)
          exact g_val (.int .i64 qp) hS (wanted_yes rfl rfl rfl eg) (op_ld1 (.int .i64 qp) rfl e69 (LA.out.below hS) 2 (by first | rfl | simp) rfl Try.underlying3 rfl) rfl
      · go_light; intro listed a' w' hs hS hun hdep
        have eg : a'.eval (.tmp 63) = (.bool m62) := hs.eval 14 _ 63 rfl (hdep ⟨14, .guard⟩ (by simp) rfl) rfl
        have e4 : a'.eval (.tmp 4) = .pointer (some ⟨w.heap.size, 0, none⟩) := (hs.out 4 (by kernel_rfl)).trans (rfl)
        cases m62
        · exact g_not hS (wanted_no rfl rfl rfl eg (by decide)) rfl
        · refine g_val (.pointer (some ⟨w.heap.size, 3, none⟩)) hS (wanted_yes rfl rfl rfl eg) ?_ rfl
          have hcn := BigFrame.eval_const a'; have hfn := BigFrame.eval_func a'; clear hs hdep; generalize a'.eval = ev at *; go_simp
      · go_light; intro listed a' w' hs hS hun hdep
        have eg : a'.eval (.tmp 63) = (.bool m62) := hs.eval 14 _ 63 rfl (hdep ⟨14, .guard⟩ (by simp) rfl) rfl
        have e71 : a'.eval (.tmp 71) = (if m62 = true then .pointer (some ⟨w.heap.size, 3, none⟩) else undef) := hs.eval 22 _ 71 rfl (hdep ⟨22, .data⟩ (by simp) rfl) rfl
        cases m62
        · exact g_not hS (wanted_no rfl rfl rfl eg (by decide)) rfl
        · replace e71 := e71.trans (if_pos rfl)
          exact g_val (.int .u32 qs) hS (wanted_yes rfl rfl rfl eg) (op_ld1 (.int .u32 qs) rfl e71 (LA.out.below hS) 3 (by first | rfl | simp) rfl Try.underlying23 rfl) rfl
      · go_light; intro listed a' w' hs hS hun hdep
        have eg : a'.eval (.tmp 63) = (.bool m62) := hs.eval 14 _ 63 rfl (hdep ⟨14, .guard⟩ (by simp) rfl) rfl
        have e4 : a'.eval (.tmp 4) = .pointer (some ⟨w.heap.size, 0, none⟩) := (hs.out 4 (by kernel_rfl)).trans (rfl)
        cases m62
        · exact g_not hS (wanted_no rfl rfl rfl eg (by decide)) rfl
        · refine g_val (.pointer (some ⟨w.heap.size, 4, none⟩)) hS (wanted_yes rfl rfl rfl eg) ?_ rfl
          have hcn := BigFrame.eval_const a'; have hfn := BigFrame.eval_func a'; clear hs hdep; generalize a'.eval = ev at *; go_simp
      · go_light; intro listed a' w' hs hS hun hdep
        have eg : a'.eval (.tmp 63) = (.bool m62) := hs.eval 14 _ 63 rfl (hdep ⟨14, .guard⟩ (by simp) rfl) rfl
        have e73 : a'.eval (.tmp 73) = (if m62 = true then .pointer (some ⟨w.heap.size, 4, none⟩) else undef) := hs.eval 24 _ 73 rfl (hdep ⟨24, .data⟩ (by simp) rfl) rfl
        cases m62
        · exact g_not hS (wanted_no rfl rfl rfl eg (by decide)) rfl
        · replace e73 := e73.trans (if_pos rfl)
          exact g_val (.int .u32 qd) hS (wanted_yes rfl rfl rfl eg) (op_ld1 (.int .u32 qd) rfl e73 (LA.out.below hS) 4 (by first | rfl | simp) rfl Try.underlying23 rfl) rfl
      · go_light; intro listed a' w' hs hS hun hdep
        have eg : a'.eval (.tmp 63) = (.bool m62) := hs.eval 14 _ 63 rfl (hdep ⟨14, .guard⟩ (by simp) rfl) rfl
        have e64 : a'.eval (.tmp 64) = (if m62 = true then .slice ao2 (1 + l.length) cp2 else undef) := hs.eval 15 _ 64 rfl (hdep ⟨15, .data⟩ (by simp) rfl) rfl
        have e66 : a'.eval (.tmp 66) = (if m62 = true then .int .i64 qi else undef) := hs.eval 17 _ 66 rfl (hdep ⟨17, .data⟩ (by simp) rfl) rfl
        have e68 : a'.eval (.tmp 68) = (if m62 = true then .int .i64 ql else undef) := hs.eval 19 _ 68 rfl (hdep ⟨19, .data⟩ (by simp) rfl) rfl
        have e70 : a'.eval (.tmp 70) = (if m62 = true then .int .i64 qp else undef) := hs.eval 21 _ 70 rfl (hdep ⟨21, .data⟩ (by simp) rfl) rfl
        have e72 : a'.eval (.tmp 72) = (if m62 = true then .int .u32 qs else undef) := hs.eval 23 _ 72 rfl (hdep ⟨23, .data⟩ (by simp) rfl) rfl
        have e74 : a'.eval (.tmp 74) = (if m62 = true then .int .u32 qd else undef) := hs.eval 25 _ 74 rfl (hdep ⟨25, .data⟩ (by simp) rfl) rfl
        cases m62
        · exact g_not hS (wanted_no rfl rfl rfl eg (by decide)) rfl
        · replace e64 := e64.trans (if_pos rfl)
          replace e66 := e66.trans (if_pos rfl)
          replace e68 := e68.trans (if_pos rfl)
          replace e70 := e70.trans (if_pos rfl)
          replace e72 := e72.trans (if_pos rfl)
          replace e74 := e74.trans (if_pos rfl)
          refine g_call 26 #[.slice ao2 (1 + l.length) cp2, .int .i64 qi, .int .i64 ql, .int .i64 qp, .int .u32 qs, .int .u32 qd] hS (wanted_yes rfl rfl rfl eg) ?_ ?_
          · have hcn := BigFrame.eval_const a'; have hfn := BigFrame.eval_func a'; clear hs hdep; generalize a'.eval = ev at *; go_simp
          · exact c_val (C75.out w' hS) rfl
      · go_light; intro listed a' w' hs hS hun hdep
        have eg : a'.eval (.tmp 63) = (.bool m62) := hs.eval 14 _ 63 rfl (hdep ⟨14, .guard⟩ (by simp) rfl) rfl
        have e2 : a'.eval (.tmp 2) = .int .i64 tq := (hs.out 2 (by kernel_rfl)).trans (rfl)
        cases m62
        · exact g_not hS (wanted_no rfl rfl rfl eg (by decide)) rfl
        · exact g_val (.int .i64 tq) hS (wanted_yes rfl rfl rfl eg) (op_move rfl e2) rfl
      · go_light; intro listed a' w' hs hS hun hdep
        have eg : a'.eval (.tmp 63) = (.bool m62) := hs.eval 14 _ 63 rfl (hdep ⟨14, .guard⟩ (by simp) rfl) rfl
        have e75 : a'.eval (.tmp 75) = (if m62 = true then .int .i64 tq else undef) := hs.eval 26 _ 75 rfl (hdep ⟨26, .data⟩ (by simp) rfl) rfl
        have e76 : a'.eval (.tmp 76) = (if m62 = true then .int .i64 tq else undef) := hs.eval 27 _ 76 rfl (hdep ⟨27, .data⟩ (by simp) rfl) rfl
        cases m62
        · exact g_not hS (wanted_no rfl rfl rfl eg (by decide)) rfl
        · replace e75 := e75.trans (if_pos rfl)
          replace e76 := e76.trans (if_pos rfl)
          refine g_val (.bool m77) hS (wanted_yes rfl rfl rfl eg) ?_ rfl
          rw [← hm77.out]
          have hcn := BigFrame.eval_const a'; have hfn := BigFrame.eval_func a'; clear hs hdep; generalize a'.eval = ev at *; go_simp; try rfl
      · go_light; intro listed a' w' hs hS hun hdep
        have e63 : a'.eval (.tmp 63) = (.bool m62) := hs.eval 14 _ 63 rfl (hdep ⟨14, .data⟩ (by simp) rfl) rfl
        have e77 : a'.eval (.tmp 77) = (if m62 = true then .bool m77 else undef) := hs.eval 28 _ 77 rfl (hdep ⟨28, .data⟩ (by simp) rfl) rfl
        refine g_val (.bool m78) hS rfl ?_ rfl
        cases m62
        · replace e77 := e77.trans (if_neg (by decide))
          exact (op_pick_f rfl e63 (BigFrame.eval_const a' _)).trans (by rw [← hm78.out]; first | rfl | simp)
        · replace e77 := e77.trans (if_pos rfl)
          exact (op_pick_t rfl e63 e77).trans (by rw [← hm78.out]; first | rfl | simp)
      · go_light; intro listed a' w' hs hS hun hdep
        have e78 : a'.eval (.tmp 78) = (.bool m78) := hs.eval 29 _ 78 rfl (hdep ⟨29, .data⟩ (by simp) rfl) rfl
        exact g_val (.bool m78) hS rfl (op_move rfl e78) rfl
      · go_light; intro listed a' w' hs hS hun hdep
        have eg : a'.eval (.tmp 79) = (.bool m78) := hs.eval 30 _ 79 rfl (hdep ⟨30, .guard⟩ (by simp) rfl) rfl
        have e8 : a'.eval (.tmp 8) = .slice aoR m cpR := (hs.out 8 (by kernel_rfl)).trans (rfl)
        cases m78
        · exact g_not hS (wanted_no rfl rfl rfl eg (by decide)) rfl
        · exact g_val (.slice aoR m cpR) hS (wanted_yes rfl rfl rfl eg) (op_move rfl e8) rfl
      · go_light; intro listed a' w' hs hS hun hdep
        have eg : a'.eval (.tmp 79) = (.bool m78) := hs.eval 30 _ 79 rfl (hdep ⟨30, .guard⟩ (by simp) rfl) rfl
        have e4 : a'.eval (.tmp 4) = .pointer (some ⟨w.heap.size, 0, none⟩) := (hs.out 4 (by kernel_rfl)).trans (rfl)
        cases m78
        · exact g_not hS (wanted_no rfl rfl rfl eg (by decide)) rfl
        · refine g_val (.pointer (some ⟨w.heap.size, 0, none⟩)) hS (wanted_yes rfl rfl rfl eg) ?_ rfl
          have hcn := BigFrame.eval_const a'; have hfn := BigFrame.eval_func a'; clear hs hdep; generalize a'.eval = ev at *; go_simp
      · go_light; intro listed a' w' hs hS hun hdep
        have eg : a'.eval (.tmp 79) = (.bool m78) := hs.eval 30 _ 79 rfl (hdep ⟨30, .guard⟩ (by simp) rfl) rfl
        have e81 : a'.eval (.tmp 81) = (if m78 = true then .pointer (some ⟨w.heap.size, 0, none⟩) else undef) := hs.eval 32 _ 81 rfl (hdep ⟨32, .data⟩ (by simp) rfl) rfl
        cases m78
        · exact g_not hS (wanted_no rfl rfl rfl eg (by decide)) rfl
        · replace e81 := e81.trans (if_pos rfl)
          exact g_val (.int .i64 qi) hS (wanted_yes rfl rfl rfl eg) (op_ld1 (.int .i64 qi) rfl e81 (LA.out.below hS) 0 (by first | rfl | simp) rfl Try.underlying3 rfl) rfl
      · go_light; intro listed a' w' hs hS hun hdep
        have eg : a'.eval (.tmp 79) = (.bool m78) := hs.eval 30 _ 79 rfl (hdep ⟨30, .guard⟩ (by simp) rfl) rfl
        have e4 : a'.eval (.tmp 4) = .pointer (some ⟨w.heap.size, 0, none⟩) := (hs.out 4 (by kernel_rfl)).trans (rfl)
        cases m78
        · exact g_not hS (wanted_no rfl rfl rfl eg (by decide)) rfl
        · refine g_val (.pointer (some ⟨w.heap.size, 1, none⟩)) hS (wanted_yes rfl rfl rfl eg) ?_ rfl
          have hcn := BigFrame.eval_const a'; have hfn := BigFrame.eval_func a'; clear hs hdep; generalize a'.eval = ev at *; go_simp
      · go_light; intro listed a' w' hs hS hun hdep
        have eg : a'.eval (.tmp 79) = (.bool m78) := hs.eval 30 _ 79 rfl (hdep ⟨30, .guard⟩ (by simp) rfl) rfl
        have e83 : a'.eval (.tmp 83) = (if m78 = true then .pointer (some ⟨w.heap.size, 1, none⟩) else undef) := hs.eval 34 _ 83 rfl (hdep ⟨34, .data⟩ (by simp) rfl) rfl
        cases m78
        · exact g_not hS (wanted_no rfl rfl rfl eg (by decide)) rfl
        · replace e83 := e83.trans (if_pos rfl)
          exact g_val (.int .i64 ql) hS (wanted_yes rfl rfl rfl eg) (op_ld1 (.int .i64 ql) rfl e83 (LA.out.below hS) 1 (by first | rfl | simp) rfl Try.underlying3 rfl) rfl
      · go_light; intro listed a' w' hs hS hun hdep
        have eg : a'.eval (.tmp 79) = (.bool m78) := hs.eval 30 _ 79 rfl (hdep ⟨30, .guard⟩ (by simp) rfl) rfl
        have e4 : a'.eval (.tmp 4) = .pointer (some ⟨w.heap.size, 0, none⟩) := (hs.out 4 (by kernel_rfl)).trans (rfl)
        cases m78
        · exact g_not hS (wanted_no rfl rfl rfl eg (by decide)) rfl
        · refine g_val (.pointer (some ⟨w.heap.size, 2, none⟩)) hS (wanted_yes rfl rfl rfl eg) ?_ rfl
          have hcn := BigFrame.eval_const a'; have hfn := BigFrame.eval_func a'; clear hs hdep; generalize a'.eval = ev at *; go_simp
      · go_light; intro listed a' w' hs hS hun hdep
        have eg : a'.eval (.tmp 79) = (.bool m78) := hs.eval 30 _ 79 rfl (hdep ⟨30, .guard⟩ (by simp) rfl) rfl
        have e85 : a'.eval (.tmp 85) = (if m78 = true then .pointer (some ⟨w.heap.size, 2, none⟩) else undef) := hs.eval 36 _ 85 rfl (hdep ⟨36, .data⟩ (by simp) rfl) rfl
        cases m78
        · exact g_not hS (wanted_no rfl rfl rfl eg (by decide)) rfl
        · replace e85 := e85.trans (if_pos rfl)
          exact g_val (.int .i64 qp) hS (wanted_yes rfl rfl rfl eg) (op_ld1 (.int .i64 qp) rfl e85 (LA.out.below hS) 2 (by first | rfl | simp) rfl Try.underlying3 rfl) rfl
      · go_light; intro listed a' w' hs hS hun hdep
        have eg : a'.eval (.tmp 79) = (.bool m78) := hs.eval 30 _ 79 rfl (hdep ⟨30, .guard⟩ (by simp) rfl) rfl
        have e4 : a'.eval (.tmp 4) = .pointer (some ⟨w.heap.size, 0, none⟩) := (hs.out 4 (by kernel_rfl)).trans (rfl)
        cases m78
        · exact g_not hS (wanted_no rfl rfl rfl eg (by decide)) rfl
        · refine g_val (.pointer (some ⟨w.heap.size, 3, none⟩)) hS (wanted_yes rfl rfl rfl eg) ?_ rfl
          have hcn := BigFrame.eval_const a'; have hfn := BigFrame.eval_func a'; clear hs hdep; generalize a'.eval = ev at *; go_simp
      · go_light; intro listed a' w' hs hS hun hdep
        have eg : a'.eval (.tmp 79) = (.bool m78) := hs.eval 30 _ 79 rfl (hdep ⟨30, .guard⟩ (by simp) rfl) rfl
        have e87 : a'.eval (.tmp 87) = (if m78 = true then .pointer (some ⟨w.heap.size, 3, none⟩) else undef) := hs.eval 38 _ 87 rfl (hdep ⟨38, .data⟩ (by simp) rfl) rfl
        cases m78
        · exact g_not hS (wanted_no rfl rfl rfl eg (by decide)) rfl
        · replace e87 := e87.trans (if_pos rfl)
          exact g_val (.int .u32 qs) hS (wanted_yes rfl rfl rfl eg) (op_ld1 (.int .u32 qs) rfl e87 (LA.out.below hS) 3 (by first | rfl | simp) rfl Try.underlying23 rfl) rfl
      · go_light; intro listed a' w' hs hS hun hdep
        have eg : a'.eval (.tmp 79) = (.bool m78) := hs.eval 30 _ 79 rfl (hdep ⟨30, .guard⟩ (by simp) rfl) rfl
        have e4 : a'.eval (.tmp 4) = .pointer (some ⟨w.heap.size, 0, none⟩) := (hs.out 4 (by kernel_rfl)).trans (rfl)
        cases m78
        · exact g_not hS (wanted_no rfl rfl rfl eg (by decide)) rfl
        · refine g_val (.pointer (some ⟨w.heap.size, 4, none⟩)) hS (wanted_yes rfl rfl rfl eg) ?_ rfl
          have hcn := BigFrame.eval_const a'; have hfn := BigFrame.eval_func a'; clear hs hdep; generalize a'.eval = ev at *; go_simp
      · go_light; intro listed a' w' hs hS hun hdep
        have eg : a'.eval (.tmp 79) = (.bool m78) := hs.eval 30 _ 79 rfl (hdep ⟨30, .guard⟩ (by simp) rfl) rfl
        have e89 : a'.eval (.tmp 89) = (if m78 = true then .pointer (some ⟨w.heap.size, 4, none⟩) else undef) := hs.eval 40 _ 89 rfl (hdep ⟨40, .data⟩ (by simp) rfl) rfl
        cases m78
        · exact g_not hS (wanted_no rfl rfl rfl eg (by decide)) rfl
        · replace e89 := e89.trans (if_pos rfl)
          exact g_val (.int .u32 qd) hS (wanted_yes rfl rfl rfl eg) (op_ld1 (.int .u32 qd) rfl e89 (LA.out.below hS) 4 (by first | rfl | simp) rfl Try.underlying23 rfl) rfl
      · go_light; intro listed a' w' hs hS hun hdep
        have eg : a'.eval (.tmp 79) = (.bool m78) := hs.eval 30 _ 79 rfl (hdep ⟨30, .guard⟩ (by simp) rfl) rfl
        have e80 : a'.eval (.tmp 80) = (if m78 = true then .slice aoR m cpR else undef) := hs.eval 31 _ 80 rfl (hdep ⟨31, .data⟩ (by simp) rfl) rfl
        have e82 : a'.eval (.tmp 82) = (if m78 = true then .int .i64 qi else undef) := hs.eval 33 _ 82 rfl (hdep ⟨33, .data⟩ (by simp) rfl) rfl
        have e84 : a'.eval (.tmp 84) = (if m78 = true then .int .i64 ql else undef) := hs.eval 35 _ 84 rfl (hdep ⟨35, .data⟩ (by simp) rfl) rfl
        have e86 : a'.eval (.tmp 86) = (if m78 = true then .int .i64 qp else undef) := hs.eval 37 _ 86 rfl (hdep ⟨37, .data⟩ (by simp) rfl) rfl
        have e88 : a'.eval (.tmp 88) = (if m78 = true then .int .u32 qs else undef) := hs.eval 39 _ 88 rfl (hdep ⟨39, .data⟩ (by simp) rfl) rfl
        have e90 : a'.eval (.tmp 90) = (if m78 = true then .int .u32 qd else undef) := hs.eval 41 _ 90 rfl (hdep ⟨41, .data⟩ (by simp) rfl) rfl
        cases m78
        · exact g_not hS (wanted_no rfl rfl rfl eg (by decide)) rfl
        · replace e80 := e80.trans (if_pos rfl)
          replace e82 := e82.trans (if_pos rfl)
          replace e84 := e84.trans (if_pos rfl)
          replace e86 := e86.trans (if_pos rfl)
          replace e88 := e88.trans (if_pos rfl)
          replace e90 := e90.trans (if_pos rfl)
          refine g_call 26 #[.slice aoR m cpR, .int .i64 qi, .int .i64 ql, .int .i64 qp, .int .u32 qs, .int .u32 qd] hS (wanted_yes rfl rfl rfl eg) ?_ ?_
          · have hcn := BigFrame.eval_const a'; have hfn := BigFrame.eval_func a'; clear hs hdep; generalize a'.eval = ev at *; go_simp
          · exact c_val (C91.out w' hS) rfl
      · go_light; intro listed a' w' hs hS hun hdep
        have eg : a'.eval (.tmp 79) = (.bool m78) := hs.eval 30 _ 79 rfl (hdep ⟨30, .guard⟩ (by simp) rfl) rfl
        have e0 : a'.eval (.tmp 0) = .slice a0 l.length cap := (hs.out 0 (by kernel_rfl)).trans (rfl)
        cases m78
        · exact g_not hS (wanted_no rfl rfl rfl eg (by decide)) rfl
        · exact g_val (.slice a0 l.length cap) hS (wanted_yes rfl rfl rfl eg) (op_move rfl e0) rfl
      · go_light; intro listed a' w' hs hS hun hdep
        have eg : a'.eval (.tmp 79) = (.bool m78) := hs.eval 30 _ 79 rfl (hdep ⟨30, .guard⟩ (by simp) rfl) rfl
        have e4 : a'.eval (.tmp 4) = .pointer (some ⟨w.heap.size, 0, none⟩) := (hs.out 4 (by kernel_rfl)).trans (rfl)
        cases m78
        · exact g_not hS (wanted_no rfl rfl rfl eg (by decide)) rfl
        · refine g_val (.pointer (some ⟨w.heap.size, 0, none⟩)) hS (wanted_yes rfl rfl rfl eg) ?_ rfl
          have hcn := BigFrame.eval_const a'; have hfn := BigFrame.eval_func a'; clear hs hdep; generalize a'.eval = ev at *; go_simp
      · go_light; intro listed a' w' hs hS hun hdep
        have eg : a'.eval (.tmp 79) = (.bool m78) := hs.eval 30 _ 79 rfl (hdep ⟨30, .guard⟩ (by simp) rfl) rfl
        have e93 : a'.eval (.tmp 93) = (if m78 = true then .pointer (some ⟨w.heap.size, 0, none⟩) else undef) := hs.eval 44 _ 93 rfl (hdep ⟨44, .data⟩ (by simp) rfl) rfl
        cases m78
        · exact g_not hS (wanted_no rfl rfl rfl eg (by decide)) rfl
        · replace e93 := e93.trans (if_pos rfl)
          exact g_val (.int .i64 qi) hS (wanted_yes rfl rfl rfl eg) (op_ld1 (.int .i64 qi) rfl e93 (LA.out.below hS) 0 (by first | rfl | simp) rfl Try.underlying3 rfl) rfl
      · go_light; intro listed a' w' hs hS hun hdep
        have eg : a'.eval (.tmp 79) = (.bool m78) := hs.eval 30 _ 79 rfl (hdep ⟨30, .guard⟩ (by simp) rfl) rfl
        have e4 : a'.eval (.tmp 4) = .pointer (some ⟨w.heap.size, 0, none⟩) := (hs.out 4 (by kernel_rfl)).trans (rfl)
        cases m78
        · exact g_not hS (wanted_no rfl rfl rfl eg (by decide)) rfl
        · refine g_val (.pointer (some ⟨w.heap.size, 1, none⟩)) hS (wanted_yes rfl rfl rfl eg) ?_ rfl
          have hcn := BigFrame.eval_const a'; have hfn := BigFrame.eval_func a'; clear hs hdep; generalize a'.eval = ev at *; go_simp
      · go_light; intro listed a' w' hs hS hun hdep
        have eg : a'.eval (.tmp 79) = (.bool m78) := hs.eval 30 _ 79 rfl (hdep ⟨30, .guard⟩ (by simp) rfl) rfl
        have e95 : a'.eval (.tmp 95) = (if m78 = true then .pointer (some ⟨w.heap.size, 1, none⟩) else undef) := hs.eval 46 _ 95 rfl (hdep ⟨46, .data⟩ (by simp) rfl) rfl
        cases m78
        · exact g_not hS (wanted_no rfl rfl rfl eg (by decide)) rfl
        · replace e95 := e95.trans (if_pos rfl)
          exact g_val (.int .i64 ql) hS (wanted_yes rfl rfl rfl eg) (op_ld1 (.int .i64 ql) rfl e95 (LA.out.below hS) 1 (by first | rfl | simp) rfl Try.underlying3 rfl) rfl
      · go_light; intro listed a' w' hs hS hun hdep
        have eg : a'.eval (.tmp 79) = (.bool m78) := hs.eval 30 _ 79 rfl (hdep ⟨30, .guard⟩ (by simp) rfl) rfl
        have e4 : a'.eval (.tmp 4) = .pointer (some ⟨w.heap.size, 0, none⟩) := (hs.out 4 (by kernel_rfl)).trans (rfl)
        cases m78
        · exact g_not hS (wanted_no rfl rfl rfl eg (by decide)) rfl
        · refine g_val (.pointer (some ⟨w.heap.size, 2, none⟩)) hS (wanted_yes rfl rfl rfl eg) ?_ rfl
          have hcn := BigFrame.eval_const a'; have hfn := BigFrame.eval_func a'; clear hs hdep; generalize a'.eval = ev at *; go_simp
      · go_light; intro listed a' w' hs hS hun hdep
        have eg : a'.eval (.tmp 79) = (.bool m78) := hs.eval 30 _ 79 rfl (hdep ⟨30, .guard⟩ (by simp) rfl) rfl
        have e97 : a'.eval (.tmp 97) = (if m78 = true then .pointer (some ⟨w.heap.size, 2, none⟩) else undef) := hs.eval 48 _ 97 rfl (hdep ⟨48, .data⟩ (by simp) rfl) rfl
        cases m78
        · exact g_not hS (wanted_no rfl rfl rfl eg (by decide)) rfl
        · replace e97 := e97.trans (if_pos rfl)
          exact g_val (.int .i64 qp) hS (wanted_yes rfl rfl rfl eg) (op_ld1 (.int .i64 qp) rfl e97 (LA.out.below hS) 2 (by first | rfl | simp) rfl Try.underlying3 rfl) rfl
      · go_light; intro listed a' w' hs hS hun hdep
        have eg : a'.eval (.tmp 79) = (.bool m78) := hs.eval 30 _ 79 rfl (hdep ⟨30, .guard⟩ (by simp) rfl) rfl
        have e4 : a'.eval (.tmp 4) = .pointer (some ⟨w.heap.size, 0, none⟩) := (hs.out 4 (by kernel_rfl)).trans (rfl)
        cases m78
        · exact g_not hS (wanted_no rfl rfl rfl eg (by decide)) rfl
        · refine g_val (.pointer (some ⟨w.heap.size, 3, none⟩)) hS (wanted_yes rfl rfl rfl eg) ?_ rfl
          have hcn := BigFrame.eval_const a'; have hfn := BigFrame.eval_func a'; clear hs hdep; generalize a'.eval = ev at *; go_simp
      · go_light; intro listed a' w' hs hS hun hdep
        have eg : a'.eval (.tmp 79) = (.bool m78) := hs.eval 30 _ 79 rfl (hdep ⟨30, .guard⟩ (by simp) rfl) rfl
        have e99 : a'.eval (.tmp 99) = (if m78 = true then .pointer (some ⟨w.heap.size, 3, none⟩) else undef) := hs.eval 50 _ 99 rfl (hdep ⟨50, .data⟩ (by simp) rfl) rfl
        cases m78
        · exact g_not hS (wanted_no rfl rfl rfl eg (by decide)) rfl
        · replace e99 := e99.trans (if_pos rfl)
          exact g_val (.int .u32 qs) hS (wanted_yes rfl rfl rfl eg) (op_ld1 (.int .u32 qs) rfl e99 (LA.out.below hS) 3 (by first | rfl | simp) rfl Try.underlying23 rfl) rfl
      · go_light; intro listed a' w' hs hS hun hdep
        have eg : a'.eval (.tmp 79) = (.bool m78) := hs.eval 30 _ 79 rfl (hdep ⟨30, .guard⟩ (by simp) rfl) rfl
        have e4 : a'.eval (.tmp 4) = .pointer (some ⟨w.heap.size, 0, none⟩) := (hs.out 4 (by kernel_rfl)).trans (rfl)
        cases m78
        · exact g_not hS (wanted_no rfl rfl rfl eg (by decide)) rfl
        · refine g_val (.pointer (some ⟨w.heap.size, 4, none⟩)) hS (wanted_yes rfl rfl rfl eg) ?_ rfl
          have hcn := BigFrame.eval_const a'; have hfn := BigFrame.eval_func a'; clear hs hdep; generalize a'.eval = ev at *; go_simp
      · go_light; intro listed a' w' hs hS hun hdep
        have eg : a'.eval (.tmp 79) = (.bool m78) := hs.eval 30 _ 79 rfl (hdep ⟨30, .guard⟩ (by simp) rfl) rfl
        have e101 : a'.eval (.tmp 101) = (if m78 = true then .pointer (some ⟨w.heap.size, 4, none⟩) else undef) := hs.eval 52 _ 101 rfl (hdep ⟨52, .data⟩ (by simp) rfl) rfl
        cases m78
        · exact g_not hS (wanted_no rfl rfl rfl eg (by decide)) rfl
        · replace e101 := e101.trans (if_pos rfl)
          exact g_val (.int .u32 qd) hS (wanted_yes rfl rfl rfl eg) (op_ld1 (.int .u32 qd) rfl e101 (LA.out.below hS) 4 (by first | rfl | simp) rfl Try.underlying23 rfl) rfl
      · go_light; intro listed a' w' hs hS hun hdep
        have eg : a'.eval (.tmp 79) = (.bool m78) := hs.eval 30 _ 79 rfl (hdep ⟨30, .guard⟩ (by simp) rfl) rfl
        have e92 : a'.eval (.tmp 92) = (if m78 = true then .slice a0 l.length cap else undef) := hs.eval 43 _ 92 rfl (hdep ⟨43, .data⟩ (by simp) rfl) rfl
        have e94 : a'.eval (.tmp 94) = (if m78 = true then .int .i64 qi else undef) := hs.eval 45 _ 94 rfl (hdep ⟨45, .data⟩ (by simp) rfl) rfl
        have e96 : a'.eval (.tmp 96) = (if m78 = true then .int .i64 ql else undef) := hs.eval 47 _ 96 rfl (hdep ⟨47, .data⟩ (by simp) rfl) rfl
        have e98 : a'.eval (.tmp 98) = (if m78 = true then .int .i64 qp else undef) := hs.eval 49 _ 98 rfl (hdep ⟨49, .data⟩ (by simp) rfl) rfl
        have e100 : a'.eval (.tmp 100) = (if m78 = true then .int .u32 qs else undef) := hs.eval 51 _ 100 rfl (hdep ⟨51, .data⟩ (by simp) rfl) rfl
        have e102 : a'.eval (.tmp 102) = (if m78 = true then .int .u32 qd else undef) := hs.eval 53 _ 102 rfl (hdep ⟨53, .data⟩ (by simp) rfl) rfl
        cases m78
        · exact g_not hS (wanted_no rfl rfl rfl eg (by decide)) rfl
        · replace e92 := e92.trans (if_pos rfl)
          replace e94 := e94.trans (if_pos rfl)
          replace e96 := e96.trans (if_pos rfl)
          replace e98 := e98.trans (if_pos rfl)
          replace e100 := e100.trans (if_pos rfl)
          replace e102 := e102.trans (if_pos rfl)
          refine g_call 26 #[.slice a0 l.length cap, .int .i64 qi, .int .i64 ql, .int .i64 qp, .int .u32 qs, .int .u32 qd] hS (wanted_yes rfl rfl rfl eg) ?_ ?_
          · have hcn := BigFrame.eval_const a'; have hfn := BigFrame.eval_func a'; clear hs hdep; generalize a'.eval = ev at *; go_simp
          · exact c_val (C103.out w' hS) rfl
      · go_light; intro listed a' w' hs hS hun hdep
        have eg : a'.eval (.tmp 79) = (.bool m78) := hs.eval 30 _ 79 rfl (hdep ⟨30, .guard⟩ (by simp) rfl) rfl
        have e91 : a'.eval (.tmp 91) = (if m78 = true then .int .i64 gt else undef) := hs.eval 42 _ 91 rfl (hdep ⟨42, .data⟩ (by simp) rfl) rfl
        have e103 : a'.eval (.tmp 103) = (if m78 = true then .int .i64 gt else undef) := hs.eval 54 _ 103 rfl (hdep ⟨54, .data⟩ (by simp) rfl) rfl
        cases m78
        · exact g_not hS (wanted_no rfl rfl rfl eg (by decide)) rfl
        · replace e91 := e91.trans (if_pos rfl)
          replace e103 := e103.trans (if_pos rfl)
          refine g_val (.bool m104) hS (wanted_yes rfl rfl rfl eg) ?_ rfl
          rw [← hm104.out]
          have hcn := BigFrame.eval_const a'; have hfn := BigFrame.eval_func a'; clear hs hdep; generalize a'.eval = ev at *; go_simp; try rfl
      · go_light; intro listed a' w' hs hS hun hdep
        have e79 : a'.eval (.tmp 79) = (.bool m78) := hs.eval 30 _ 79 rfl (hdep ⟨30, .data⟩ (by simp) rfl) rfl
        have e104 : a'.eval (.tmp 104) = (if m78 = true then .bool m104 else undef) := hs.eval 55 _ 104 rfl (hdep ⟨55, .data⟩ (by simp) rfl) rfl
        refine g_val (.bool m105) hS rfl ?_ rfl
        cases m78
        · replace e104 := e104.trans (if_neg (by decide))
          exact (op_pick_f rfl e79 (BigFrame.eval_const a' _)).trans (by rw [← hm105.out]; first | rfl | simp)
        · replace e104 := e104.trans (if_pos rfl)
          exact (op_pick_t rfl e79 e104).trans (by rw [← hm105.out]; first | rfl | simp)
      · go_light; intro listed a' w' hs hS hun hdep
        have e105 : a'.eval (.tmp 105) = (.bool m105) := hs.eval 56 _ 105 rfl (hdep ⟨56, .data⟩ (by simp) rfl) rfl
        exact g_val (.bool m105) hS rfl (op_move rfl e105) rfl
      · go_light; intro listed a' w' hs hS hun hdep
        have eg : a'.eval (.tmp 106) = (.bool m105) := hs.eval 57 _ 106 rfl (hdep ⟨57, .guard⟩ (by simp) rfl) rfl
        cases m105
        · exact g_not hS (wanted_no rfl rfl rfl eg (by decide)) rfl
        · refine g_call 21 #[] hS (wanted_yes rfl rfl rfl eg) ?_ ?_
          · have hcn := BigFrame.eval_const a'; have hfn := BigFrame.eval_func a'; clear hs hdep; generalize a'.eval = ev at *; go_simp
          · exact c_val (C107.out w' hS) rfl
      · go_light; intro listed a' w' hs hS hun hdep
        have e106 : a'.eval (.tmp 106) = (.bool m105) := hs.eval 57 _ 106 rfl (hdep ⟨57, .data⟩ (by simp) rfl) rfl
        have e107 : a'.eval (.tmp 107) = (if m105 = true then .bool true else undef) := hs.eval 58 _ 107 rfl (hdep ⟨58, .data⟩ (by simp) rfl) rfl
        refine g_val (.bool m108) hS rfl ?_ rfl
        cases m105
        · replace e107 := e107.trans (if_neg (by decide))
          exact (op_pick_f rfl e106 (BigFrame.eval_const a' _)).trans (by rw [← hm108.out]; first | rfl | simp)
        · replace e107 := e107.trans (if_pos rfl)
          exact (op_pick_t rfl e106 e107).trans (by rw [← hm108.out]; first | rfl | simp)
      · intro vs w5 hlen hV hS
        obtain ⟨v0, v1, v2, v3, v4, v5, v6, v7, v8, v9, v10, v11, v12, v13, v14, v15, v16, v17, v18, v19, v20, v21, v22, v23, v24, v25, v26, v27, v28, v29, v30, v31, v32, v33, v34, v35, v36, v37, v38, v39, v40, v41, v42, v43, v44, v45, v46, v47, v48, v49, v50, v51, v52, v53, v54, v55, v56, v57, v58, v59, rfl⟩ := vs_60 vs (hlen.trans rfl)
        have q0 : v0 = .pointer (some ⟨w.heap.size, 0, none⟩) := hV 0 _ rfl
        have q1 : v1 = .int .i64 qi := hV 1 _ rfl
        have q2 : v2 = .pointer (some ⟨w.heap.size, 1, none⟩) := hV 2 _ rfl
        have q3 : v3 = .int .i64 ql := hV 3 _ rfl
        have q4 : v4 = .pointer (some ⟨w.heap.size, 2, none⟩) := hV 4 _ rfl
        have q5 : v5 = .int .i64 qp := hV 5 _ rfl
        have q6 : v6 = .pointer (some ⟨w.heap.size, 3, none⟩) := hV 6 _ rfl
        have q7 : v7 = .int .u32 qs := hV 7 _ rfl
        have q8 : v8 = .pointer (some ⟨w.heap.size, 4, none⟩) := hV 8 _ rfl
        have q9 : v9 = .int .u32 qd := hV 9 _ rfl
        have q10 : v10 = .int .i64 ql := hV 10 _ rfl
        have q11 : v11 = .pointer (some ⟨w.heap.size, 1, none⟩) := hV 11 _ rfl
        have q12 : v12 = .int .i64 ql := hV 12 _ rfl
        have q13 : v13 = .bool m62 := hV 13 _ rfl
        have q14 : v14 = .bool m62 := hV 14 _ rfl
        have q29 : v29 = .bool m78 := hV 29 _ rfl
        have q30 : v30 = .bool m78 := hV 30 _ rfl
        have q56 : v56 = .bool m105 := hV 56 _ rfl
        have q57 : v57 = .bool m105 := hV 57 _ rfl
        have q59 : v59 = .bool m108 := hV 59 _ rfl
        have hbel : Below wr.heap.size wr w5 := hS
        subst q0 q1 q2 q3 q4 q5 q6 q7 q8 q9 q10 q11 q12 q13 q14 q29 q30 q56 q57 q59
        clear hV hS hlen
        simp only [lays, Act.put, List.setIfInBounds_toArray, List.set_cons_zero, List.set_cons_succ, List.drop_succ_cons, List.drop_zero, List.take_succ_cons, List.take_zero]
        have h108 : m108 = true := by rw [← hm108.out, ← hm105.out, ← hm104.out, ← hm78.out, ← hm77.out, ← hm62.out]; simp
        have hb5 := hbw.trans (hbel.mono hbw.size)
        subst h108
        clear hm62 hm77 hm78 hm104 hm105 hm108 C59 C75 C91 C103 C107 hbel
        go_wp2
        go_ret
        exact ⟨rfl, hb5⟩
#print axioms gstays_law
end Go.Proofs.Ytagfcfkkjllfpaa
