/- The example; GuardTo, walked whole. -/
import Derived.Test.YtagfcfkkjllfpaaGuFirst
namespace Go.Proofs.Ytagfcfkkjllfpaa
open Go.RowKit
set_option maxRecDepth 100000
set_option linter.unusedVariables false
open Gd

-- REGIONS
theorem vs_15 (vs : List Value) (h : vs.length = 15) : ∃ v0 v1 v2 v3 v4 v5 v6 v7 v8 v9 v10 v11 v12 v13 v14, vs = [v0, v1, v2, v3, v4, v5, v6, v7, v8, v9, v10, v11, v12, v13, v14] := by
  obtain ⟨v0, r0, rfl, h0⟩ := vs_cons vs h
  obtain ⟨v1, r1, rfl, h1⟩ := vs_cons r0 h0
  obtain ⟨v2, r2, rfl, h2⟩ := vs_cons r1 h1
  obtain ⟨v3, r3, rfl, h3⟩ := vs_cons r2 h2
  obtain ⟨v4, r4, rfl, h4⟩ := vs_cons r3 h3
  obtain ⟨v5, r5, rfl, h5⟩ := vs_cons r4 h4
  obtain ⟨v6, r6, rfl, h6⟩ := vs_cons r5 h5
  obtain ⟨v7, r7, rfl, h7⟩ := vs_cons r6 h6
  obtain ⟨v8, r8, rfl, h8⟩ := vs_cons r7 h7
  obtain ⟨v9, r9, rfl, h9⟩ := vs_cons r8 h8
  obtain ⟨v10, r10, rfl, h10⟩ := vs_cons r9 h9
  obtain ⟨v11, r11, rfl, h11⟩ := vs_cons r10 h10
  obtain ⟨v12, r12, rfl, h12⟩ := vs_cons r11 h11
  obtain ⟨v13, r13, rfl, h13⟩ := vs_cons r12 h12
  obtain ⟨v14, r14, rfl, h14⟩ := vs_cons r13 h13
  obtain rfl := List.eq_nil_of_length_eq_zero h14
  exact ⟨v0, v1, v2, v3, v4, v5, v6, v7, v8, v9, v10, v11, v12, v13, v14, rfl⟩
theorem vs_17 (vs : List Value) (h : vs.length = 17) : ∃ v0 v1 v2 v3 v4 v5 v6 v7 v8 v9 v10 v11 v12 v13 v14 v15 v16, vs = [v0, v1, v2, v3, v4, v5, v6, v7, v8, v9, v10, v11, v12, v13, v14, v15, v16] := by
  obtain ⟨v0, r0, rfl, h0⟩ := vs_cons vs h
  obtain ⟨v1, r1, rfl, h1⟩ := vs_cons r0 h0
  obtain ⟨v2, r2, rfl, h2⟩ := vs_cons r1 h1
  obtain ⟨v3, r3, rfl, h3⟩ := vs_cons r2 h2
  obtain ⟨v4, r4, rfl, h4⟩ := vs_cons r3 h3
  obtain ⟨v5, r5, rfl, h5⟩ := vs_cons r4 h4
  obtain ⟨v6, r6, rfl, h6⟩ := vs_cons r5 h5
  obtain ⟨v7, r7, rfl, h7⟩ := vs_cons r6 h6
  obtain ⟨v8, r8, rfl, h8⟩ := vs_cons r7 h7
  obtain ⟨v9, r9, rfl, h9⟩ := vs_cons r8 h8
  obtain ⟨v10, r10, rfl, h10⟩ := vs_cons r9 h9
  obtain ⟨v11, r11, rfl, h11⟩ := vs_cons r10 h10
  obtain ⟨v12, r12, rfl, h12⟩ := vs_cons r11 h11
  obtain ⟨v13, r13, rfl, h13⟩ := vs_cons r12 h12
  obtain ⟨v14, r14, rfl, h14⟩ := vs_cons r13 h13
  obtain ⟨v15, r15, rfl, h15⟩ := vs_cons r14 h14
  obtain ⟨v16, r16, rfl, h16⟩ := vs_cons r15 h15
  obtain rfl := List.eq_nil_of_length_eq_zero h16
  exact ⟨v0, v1, v2, v3, v4, v5, v6, v7, v8, v9, v10, v11, v12, v13, v14, v15, v16, rfl⟩
theorem vs_9 (vs : List Value) (h : vs.length = 9) : ∃ v0 v1 v2 v3 v4 v5 v6 v7 v8, vs = [v0, v1, v2, v3, v4, v5, v6, v7, v8] := by
  obtain ⟨v0, r0, rfl, h0⟩ := vs_cons vs h
  obtain ⟨v1, r1, rfl, h1⟩ := vs_cons r0 h0
  obtain ⟨v2, r2, rfl, h2⟩ := vs_cons r1 h1
  obtain ⟨v3, r3, rfl, h3⟩ := vs_cons r2 h2
  obtain ⟨v4, r4, rfl, h4⟩ := vs_cons r3 h3
  obtain ⟨v5, r5, rfl, h5⟩ := vs_cons r4 h4
  obtain ⟨v6, r6, rfl, h6⟩ := vs_cons r5 h5
  obtain ⟨v7, r7, rfl, h7⟩ := vs_cons r6 h6
  obtain ⟨v8, r8, rfl, h8⟩ := vs_cons r7 h7
  obtain rfl := List.eq_nil_of_length_eq_zero h8
  exact ⟨v0, v1, v2, v3, v4, v5, v6, v7, v8, rfl⟩
theorem vs_51 (vs : List Value) (h : vs.length = 51) : ∃ v0 v1 v2 v3 v4 v5 v6 v7 v8 v9 v10 v11 v12 v13 v14 v15 v16 v17 v18 v19 v20 v21 v22 v23 v24 v25 v26 v27 v28 v29 v30 v31 v32 v33 v34 v35 v36 v37 v38 v39 v40 v41 v42 v43 v44 v45 v46 v47 v48 v49 v50, vs = [v0, v1, v2, v3, v4, v5, v6, v7, v8, v9, v10, v11, v12, v13, v14, v15, v16, v17, v18, v19, v20, v21, v22, v23, v24, v25, v26, v27, v28, v29, v30, v31, v32, v33, v34, v35, v36, v37, v38, v39, v40, v41, v42, v43, v44, v45, v46, v47, v48, v49, v50] := by
  obtain ⟨v0, r0, rfl, h0⟩ := vs_cons vs h
  obtain ⟨v1, r1, rfl, h1⟩ := vs_cons r0 h0
  obtain ⟨v2, r2, rfl, h2⟩ := vs_cons r1 h1
  obtain ⟨v3, r3, rfl, h3⟩ := vs_cons r2 h2
  obtain ⟨v4, r4, rfl, h4⟩ := vs_cons r3 h3
  obtain ⟨v5, r5, rfl, h5⟩ := vs_cons r4 h4
  obtain ⟨v6, r6, rfl, h6⟩ := vs_cons r5 h5
  obtain ⟨v7, r7, rfl, h7⟩ := vs_cons r6 h6
  obtain ⟨v8, r8, rfl, h8⟩ := vs_cons r7 h7
  obtain ⟨v9, r9, rfl, h9⟩ := vs_cons r8 h8
  obtain ⟨v10, r10, rfl, h10⟩ := vs_cons r9 h9
  obtain ⟨v11, r11, rfl, h11⟩ := vs_cons r10 h10
  obtain ⟨v12, r12, rfl, h12⟩ := vs_cons r11 h11
  obtain ⟨v13, r13, rfl, h13⟩ := vs_cons r12 h12
  obtain ⟨v14, r14, rfl, h14⟩ := vs_cons r13 h13
  obtain ⟨v15, r15, rfl, h15⟩ := vs_cons r14 h14
  obtain ⟨v16, r16, rfl, h16⟩ := vs_cons r15 h15
  obtain ⟨v17, r17, rfl, h17⟩ := vs_cons r16 h16
  obtain ⟨v18, r18, rfl, h18⟩ := vs_cons r17 h17
  obtain ⟨v19, r19, rfl, h19⟩ := vs_cons r18 h18
  obtain ⟨v20, r20, rfl, h20⟩ := vs_cons r19 h19
  obtain ⟨v21, r21, rfl, h21⟩ := vs_cons r20 h20
  obtain ⟨v22, r22, rfl, h22⟩ := vs_cons r21 h21
  obtain ⟨v23, r23, rfl, h23⟩ := vs_cons r22 h22
  obtain ⟨v24, r24, rfl, h24⟩ := vs_cons r23 h23
  obtain ⟨v25, r25, rfl, h25⟩ := vs_cons r24 h24
  obtain ⟨v26, r26, rfl, h26⟩ := vs_cons r25 h25
  obtain ⟨v27, r27, rfl, h27⟩ := vs_cons r26 h26
  obtain ⟨v28, r28, rfl, h28⟩ := vs_cons r27 h27
  obtain ⟨v29, r29, rfl, h29⟩ := vs_cons r28 h28
  obtain ⟨v30, r30, rfl, h30⟩ := vs_cons r29 h29
  obtain ⟨v31, r31, rfl, h31⟩ := vs_cons r30 h30
  obtain ⟨v32, r32, rfl, h32⟩ := vs_cons r31 h31
  obtain ⟨v33, r33, rfl, h33⟩ := vs_cons r32 h32
  obtain ⟨v34, r34, rfl, h34⟩ := vs_cons r33 h33
  obtain ⟨v35, r35, rfl, h35⟩ := vs_cons r34 h34
  obtain ⟨v36, r36, rfl, h36⟩ := vs_cons r35 h35
  obtain ⟨v37, r37, rfl, h37⟩ := vs_cons r36 h36
  obtain ⟨v38, r38, rfl, h38⟩ := vs_cons r37 h37
  obtain ⟨v39, r39, rfl, h39⟩ := vs_cons r38 h38
  obtain ⟨v40, r40, rfl, h40⟩ := vs_cons r39 h39
  obtain ⟨v41, r41, rfl, h41⟩ := vs_cons r40 h40
  obtain ⟨v42, r42, rfl, h42⟩ := vs_cons r41 h41
  obtain ⟨v43, r43, rfl, h43⟩ := vs_cons r42 h42
  obtain ⟨v44, r44, rfl, h44⟩ := vs_cons r43 h43
  obtain ⟨v45, r45, rfl, h45⟩ := vs_cons r44 h44
  obtain ⟨v46, r46, rfl, h46⟩ := vs_cons r45 h45
  obtain ⟨v47, r47, rfl, h47⟩ := vs_cons r46 h46
  obtain ⟨v48, r48, rfl, h48⟩ := vs_cons r47 h47
  obtain ⟨v49, r49, rfl, h49⟩ := vs_cons r48 h48
  obtain ⟨v50, r50, rfl, h50⟩ := vs_cons r49 h49
  obtain rfl := List.eq_nil_of_length_eq_zero h50
  exact ⟨v0, v1, v2, v3, v4, v5, v6, v7, v8, v9, v10, v11, v12, v13, v14, v15, v16, v17, v18, v19, v20, v21, v22, v23, v24, v25, v26, v27, v28, v29, v30, v31, v32, v33, v34, v35, v36, v37, v38, v39, v40, v41, v42, v43, v44, v45, v46, v47, v48, v49, v50, rfl⟩

namespace Gd
def r0 : Gu := ⟨0, 1, 0, 0, 167772160, 8, -1, 0⟩
theorem r0_fine : r0.fine := ⟨by decide, by decide⟩
theorem Gto_one (r : Gu) (q : Q) : Gto [r] q = if r.m q then r.to else q.l := by
  have h := Gfirst_one r q
  rcases U.first_cases (fun k => (gu [r] k).m q) 1 with ⟨h1, h2⟩ | ⟨k, h1, h2, _, h4⟩
  · have e : Gfirst [r] q = -1 := h1
    rw [Gto_none e]
    rw [e] at h
    rw [← h]
    rfl
  · obtain rfl : k = 0 := by omega
    have e : Gfirst [r] q = ((0 : Nat) : Int) := h1
    rw [Gto_some e]
    rw [e] at h
    rw [← h]
    rfl
theorem ex0 : Gto [r0] ⟨0, 1, 6, 1, 167772161⟩ = 0 := by rw [Gto_one]; kernel_rfl
theorem ex1 : Gto [r0] ⟨1, 1, 6, 1, 167772161⟩ = 1 := by rw [Gto_one]; kernel_rfl
theorem ex2 : [r0].all (Gu.ok 2) = true := by kernel_rfl
end Gd

set_option maxHeartbeats 4000000 in
theorem guard_awake (w : World) : Calls Try.prog 21 #[] w fun e w' => e = .returned (.bool true) ∧ Below w.heap.size w w' := by
  have hb0 := (Below.refl _ w).alloc (Nat.le_refl _) (.cells r0.v.toArray 50)
  have HG := Lib.hid (heap_alloc_new w (.cells r0.v.toArray 50))
  have HRow := Lib.hid (fun (w' : World) (h : w'.heap[w.heap.size]? = some (.cells r0.v.toArray 50 (0, 0))) => (show GRow w' (some ⟨w.heap.size, 0, none⟩) [r0] from RowsOf.of_block (fun _ => rfl) (by simp) h))
  have hfi : GFine [r0] := fun x hx => by rw [List.mem_singleton.1 hx]; exact r0_fine
  have HA := Lib.hid (fun (q : Gd.Q) (hq : q.fine) w' (h : w'.heap[w.heap.size]? = some (.cells r0.v.toArray 50 (0, 0))) => GTo_any (some ⟨w.heap.size, 0, none⟩) 1 [r0] q w' (HRow.out w' h) hfi hq (by simp))
  have HA1 := Lib.hid (HA.out ⟨0, 1, 6, 1, 167772161⟩ ⟨by decide, by decide⟩)
  have HA2 := Lib.hid (HA.out ⟨1, 1, 6, 1, 167772161⟩ ⟨by decide, by decide⟩)
  have HA3 := Lib.hid (fun w' (h : w'.heap[w.heap.size]? = some (.cells r0.v.toArray 50 (0, 0))) => GRight_any 2 (some ⟨w.heap.size, 0, none⟩) 1 [r0] w' (HRow.out w' h) hfi (by simp))
  rw [Gd.ex0] at HA1
  rw [Gd.ex1] at HA2
  rw [Gd.ex2] at HA3
  clear HA HRow hfi
  simp only [Gu.v, r0] at *
  go_enter Try.func21, Try.ntmps21
  go_wp2_with fail
  refine (HA1.out _ HG.out).mono ?_
  rintro e w1 ⟨rfl, hb1⟩
  have hbw := hb0.trans (hb1.mono hb0.size)
  have HG1 := Lib.hid ((hb1.block _ (heap_lt HG.out)).trans HG.out)
  clear hb1
  go_wp2_with fail
  refine (HA2.out _ HG1.out).mono ?_
  rintro e w2 ⟨rfl, hb2⟩
  have hbw2 := hbw.trans (hb2.mono hbw.size)
  have HG2 := Lib.hid ((hb2.block _ (heap_lt HG1.out)).trans HG1.out)
  clear hb2
  go_wp2_with fail
  refine (HA3.out _ HG2.out).mono ?_
  rintro e w3 ⟨rfl, hb3⟩
  have hbw3 := hbw2.trans (hb3.mono hbw2.size)
  go_wp2
  go_ret
  exact ⟨rfl, hbw3⟩

set_option maxHeartbeats 16000000 in
theorem gto_law (a0 : Option Addr) (cap : Nat) (l : List Gu) (q : Gd.Q) (mm : Int) (w : World) (h : GRow w a0 l) (hf : GFine l) (hq : q.fine) :
    Calls Try.prog 7 #[.slice a0 l.length cap, .agg q.v.toArray, .int .i64 mm] w fun e w' => e = .returned (.bool true) ∧ Below w.heap.size w w' := by
  have hb0 := (Below.refl _ w).alloc (Nat.le_refl _) (.cells q.v.toArray 47)
  by_cases h80 : 80 < l.length
  · have h80' : (80 : Int) < (l.length : Int) := by omega
    obtain ⟨qi, ql, qp, qs, qd⟩ := q
    simp only [Q.v] at *
    go_enter Try.func7, Try.ntmps7
    go_wp2_with fail
    refine (guard_awake _).mono ?_
    rintro e w1 ⟨rfl, hb1⟩
    have hbw := hb0.trans (hb1.mono hb0.size)
    go_wp2
    go_ret
    exact ⟨rfl, hbw⟩
  have h80' : ¬ (80 : Int) < (l.length : Int) := by omega
  have hl : l.length ≤ 1000000 := by omega
  have hl80 : l.length ≤ 80 := by omega
  have HR := Lib.hid h
  have HF := Lib.hid hf
  have HFI := Lib.hid (fun w' (hb : Below w.heap.size w w') => GFirst_any a0 cap l q w' (h.below hb) hf hq hl)
  have HTO := Lib.hid (fun w' (hb : Below w.heap.size w w') => GTo_any a0 cap l q w' (h.below hb) hf hq hl)
  have HRT := Lib.hid (fun w' (hb : Below w.heap.size w w') => rgTo_any a0 cap l q w' (h.below hb) hf hq hl)
  have HRI := Lib.hid (fun w' (hb : Below w.heap.size w w') => GRight_any mm a0 cap l w' (h.below hb) hf hl)
  have HHit := Lib.hid (fun k (h1 : k < l.length) (h2 : ∀ j, j < k → (gu l j).m q = false) (h3 : (gu l k).m q = true) => (show Gfirst l q = k from U.first_some h1 h2 h3))
  have HMiss := Lib.hid (fun (h2 : ∀ j, j < l.length → (gu l j).m q = false) => (show Gfirst l q = -1 from U.first_none h2))
  clear h hf hl h80
  generalize Gto l q = gt at *
  generalize Gfirst l q = fi at *
  obtain ⟨qi, ql, qp, qs, qd⟩ := q
  have Hqs := Lib.hid hq.1
  have Hqd := Lib.hid hq.2
  clear hq
  simp only [Q.v] at hb0 ⊢
  simp only [] at HFI HTO HRT
  have LA0 := Lib.hid (Lies.new w [.int .i64 qi, .int .i64 ql, .int .i64 qp, .int .u32 qs, .int .u32 qd] 47)
  go_enter Try.func7, Try.ntmps7
  go_wp2
  generalize (w.alloc (.cells #[.int .i64 qi, .int .i64 ql, .int .i64 qp, .int .u32 qs, .int .u32 qd] 47)) = W0 at *
  go_loopw [7, 8, 9] (fun p r i wr => ∃ (k : Nat) (at_ : Int) (rt : Bool), k ≤ l.length ∧ i = .int .i64 ((k : Int) - 1) ∧ p = .int .i64 at_ ∧ r = .bool rt ∧
    Hid ((at_ = -1 ∧ ∀ j, k ≤ j → j < l.length → (gu l j).m ⟨qi, ql, qp, qs, qd⟩ = false) ∨ (∃ j, k ≤ j ∧ j < l.length ∧ at_ = (j : Nat) ∧ (gu l j).m ⟨qi, ql, qp, qs, qd⟩ = true ∧ ∀ i, k ≤ i → i < j → (gu l i).m ⟨qi, ql, qp, qs, qd⟩ = false)) ∧
    Hid (rt = true ↔ ∀ j, k ≤ j → j < l.length → (gu l j).ok mm = true) ∧ Below W0.heap.size W0 wr ∧ Below w.heap.size w wr) (fun _ _ i _ => (intOf i + 1).toNat)
  case atStart => exact ⟨l.length, -1, true, Nat.le_refl _, rfl, rfl, rfl, Lib.hid (.inl ⟨rfl, fun j h1 h2 => by omega⟩), Lib.hid ⟨fun _ j h1 h2 => by omega, fun _ => rfl⟩, Below.refl _ _, hb0⟩
  case round =>
    obtain ⟨k1, at_, rt, hk, rfl, rfl, rfl, HAt, HRt, hb, hbw⟩ := hrel
    by_cases hk0 : k1 = 0
    · subst hk0
      have hneg : ¬ (0 : Int) ≤ ((0 : Nat) : Int) - 1 := by omega
      have hfi : fi = at_ := by
        rcases HAt.out with ⟨rfl, hn⟩ | ⟨j, _, hj, rfl, hj2, hn⟩
        · exact HMiss.out fun j hj => hn j (by omega) hj
        · exact HHit.out j hj (fun i hi => hn i (by omega) hi) hj2
      have hall : l.all (Gu.ok mm) = rt := by
        cases hrt : rt
        · rw [Bool.eq_false_iff]
          intro h
          have : rt = true := HRt.out.2 (fun j _ hj => List.all_eq_true.1 h _ (gu_mem l j hj))
          rw [hrt] at this
          cases this
        · exact Gd.allOk_yes (fun j hj => HRt.out.1 hrt j (by omega) hj)
      rw [hall] at HRI
      subst hfi
      have LA := Lib.hid (LA0.out.below hb)
      clear HAt HRt hall LA0 HHit HMiss
      go_wp2
      have C76 := Lib.hid (fun (w' : World) (hb : Below wr.heap.size wr w') => show Calls Try.prog 25 #[.slice a0 l.length cap, .int .i64 qi, .int .i64 ql, .int .i64 qp, .int .u32 qs, .int .u32 qd] w' (fun e w'' => e = .returned (.int .i64 fi) ∧ Below w'.heap.size w' w'') from (by exact HFI.out w' (hbw.trans (hb.mono hbw.size))))
      obtain ⟨m78, hm78⟩ : ∃ x, (fi == fi) = x := ⟨_, rfl⟩
      replace hm78 := Lib.hid hm78
      have C91 := Lib.hid (fun (w' : World) (hb : Below wr.heap.size wr w') => show Calls Try.prog 26 #[.slice a0 l.length cap, .int .i64 qi, .int .i64 ql, .int .i64 qp, .int .u32 qs, .int .u32 qd] w' (fun e w'' => e = .returned (.int .i64 gt) ∧ Below w'.heap.size w' w'') from (by exact HTO.out w' (hbw.trans (hb.mono hbw.size))))
      have C103 := Lib.hid (fun (w' : World) (hb : Below wr.heap.size wr w') => show Calls Try.prog 27 #[.slice a0 l.length cap, .int .i64 qi, .int .i64 ql, .int .i64 qp, .int .u32 qs, .int .u32 qd] w' (fun e w'' => e = .returned (.int .i64 gt) ∧ Below w'.heap.size w' w'') from (by exact HRT.out w' (hbw.trans (hb.mono hbw.size))))
      obtain ⟨m104, hm104⟩ : ∃ x, (gt == gt) = x := ⟨_, rfl⟩
      replace hm104 := Lib.hid hm104
      obtain ⟨m105, hm105⟩ : ∃ x, (m78 && m104) = x := ⟨_, rfl⟩
      replace hm105 := Lib.hid hm105
      obtain ⟨m109, hm109⟩ : ∃ x, (rt) = x := ⟨_, rfl⟩
      replace hm109 := Lib.hid hm109
      have C109 := Lib.hid (fun (w' : World) (hb : Below wr.heap.size wr w') => show Calls Try.prog 28 #[.int .i64 mm, .slice a0 l.length cap] w' (fun e w'' => e = .returned (.bool m109) ∧ Below w'.heap.size w' w'') from (by rw [← hm109.out]; exact HRI.out w' (hbw.trans (hb.mono hbw.size))))
      obtain ⟨m111, hm111⟩ : ∃ x, ((m109 == rt)) = x := ⟨_, rfl⟩
      replace hm111 := Lib.hid hm111
      obtain ⟨m112, hm112⟩ : ∃ x, (m105 && m111) = x := ⟨_, rfl⟩
      replace hm112 := Lib.hid hm112
      have C114 := Lib.hid (fun (w' : World) (hb : Below wr.heap.size wr w') => show Calls Try.prog 21 #[] w' (fun e w'' => e = .returned (.bool true) ∧ Below w'.heap.size w' w'') from (by exact guard_awake w'))
      obtain ⟨m115, hm115⟩ : ∃ x, (m112 && true) = x := ⟨_, rfl⟩
      replace hm115 := Lib.hid hm115
      refine region_gen_tail 51 (VG wr.heap.size [.val (.slice a0 l.length cap), .val (.pointer (some ⟨w.heap.size, 0, none⟩)), .val (.int .i64 qi), .val (.pointer (some ⟨w.heap.size, 1, none⟩)), .val (.int .i64 ql), .val (.pointer (some ⟨w.heap.size, 2, none⟩)), .val (.int .i64 qp), .val (.pointer (some ⟨w.heap.size, 3, none⟩)), .val (.int .u32 qs), .val (.pointer (some ⟨w.heap.size, 4, none⟩)), .val (.int .u32 qd), .val (.int .i64 fi), .val (.int .i64 fi), .val (.bool m78), .val (.bool m78), .val (if m78 = true then .slice a0 l.length cap else undef), .val (if m78 = true then .pointer (some ⟨w.heap.size, 0, none⟩) else undef), .val (if m78 = true then .int .i64 qi else undef), .val (if m78 = true then .pointer (some ⟨w.heap.size, 1, none⟩) else undef), .val (if m78 = true then .int .i64 ql else undef), .val (if m78 = true then .pointer (some ⟨w.heap.size, 2, none⟩) else undef), .val (if m78 = true then .int .i64 qp else undef), .val (if m78 = true then .pointer (some ⟨w.heap.size, 3, none⟩) else undef), .val (if m78 = true then .int .u32 qs else undef), .val (if m78 = true then .pointer (some ⟨w.heap.size, 4, none⟩) else undef), .val (if m78 = true then .int .u32 qd else undef), .val (if m78 = true then .int .i64 gt else undef), .val (if m78 = true then .slice a0 l.length cap else undef), .val (if m78 = true then .pointer (some ⟨w.heap.size, 0, none⟩) else undef), .val (if m78 = true then .int .i64 qi else undef), .val (if m78 = true then .pointer (some ⟨w.heap.size, 1, none⟩) else undef), .val (if m78 = true then .int .i64 ql else undef), .val (if m78 = true then .pointer (some ⟨w.heap.size, 2, none⟩) else undef), .val (if m78 = true then .int .i64 qp else undef), .val (if m78 = true then .pointer (some ⟨w.heap.size, 3, none⟩) else undef), .val (if m78 = true then .int .u32 qs else undef), .val (if m78 = true then .pointer (some ⟨w.heap.size, 4, none⟩) else undef), .val (if m78 = true then .int .u32 qd else undef), .val (if m78 = true then .int .i64 gt else undef), .val (if m78 = true then .bool m104 else undef), .val (.bool m105), .val (.bool m105), .val (if m105 = true then .int .i64 mm else undef), .val (if m105 = true then .slice a0 l.length cap else undef), .val (if m105 = true then .bool m109 else undef), .val (if m105 = true then .bool rt else undef), .val (if m105 = true then .bool m111 else undef), .val (.bool m112), .val (.bool m112), .val (if m112 = true then .bool true else undef), .val (.bool m115)]) (BS wr) (by kernel_rfl) (by kernel_rfl) (by kernel_rfl) (Below.refl _ _).drew ⟨?_, ?_, ?_, ?_, ?_, ?_, ?_, ?_, ?_, ?_, ?_, ?_, ?_, ?_, ?_, ?_, ?_, ?_, ?_, ?_, ?_, ?_, ?_, ?_, ?_, ?_, ?_, ?_, ?_, ?_, ?_, ?_, ?_, ?_, ?_, ?_, ?_, ?_, ?_, ?_, ?_, ?_, ?_, ?_, ?_, ?_, ?_, ?_, ?_, ?_, ?_, trivial⟩ ?_
      · go_light; intro listed a' w' hs hS hun hdep
        have e0 : a'.eval (.tmp 0) = .slice a0 l.length cap := (hs.out 0 (by kernel_rfl)).trans (rfl)
        exact g_val (.slice a0 l.length cap) hS rfl (op_move rfl e0) rfl
      · go_light; intro listed a' w' hs hS hun hdep
        have e4 : a'.eval (.tmp 4) = .pointer (some ⟨w.heap.size, 0, none⟩) := (hs.out 4 (by kernel_rfl)).trans (rfl)
        refine g_val (.pointer (some ⟨w.heap.size, 0, none⟩)) hS rfl ?_ rfl
        have hcn := BigFrame.eval_const a'; have hfn := BigFrame.eval_func a'; clear hs hdep; generalize a'.eval = ev at *; go_simp
      · go_light; intro listed a' w' hs hS hun hdep
        have e66 : a'.eval (.tmp 66) = (.pointer (some ⟨w.heap.size, 0, none⟩)) := hs.eval 1 _ 66 rfl (hdep ⟨1, .data⟩ (by simp) rfl) rfl
        exact g_val (.int .i64 qi) hS rfl (op_ld1 (.int .i64 qi) rfl e66 (LA.out.below hS) 0 (by first | rfl | simp) rfl Try.underlying3 rfl) rfl
      · go_light; intro listed a' w' hs hS hun hdep
        have e4 : a'.eval (.tmp 4) = .pointer (some ⟨w.heap.size, 0, none⟩) := (hs.out 4 (by kernel_rfl)).trans (rfl)
        refine g_val (.pointer (some ⟨w.heap.size, 1, none⟩)) hS rfl ?_ rfl
        have hcn := BigFrame.eval_const a'; have hfn := BigFrame.eval_func a'; clear hs hdep; generalize a'.eval = ev at *; go_simp
      · go_light; intro listed a' w' hs hS hun hdep
        have e68 : a'.eval (.tmp 68) = (.pointer (some ⟨w.heap.size, 1, none⟩)) := hs.eval 3 _ 68 rfl (hdep ⟨3, .data⟩ (by simp) rfl) rfl
        exact g_val (.int .i64 ql) hS rfl (op_ld1 (.int .i64 ql) rfl e68 (LA.out.below hS) 1 (by first | rfl | simp) rfl Try.underlying3 rfl) rfl
      · go_light; intro listed a' w' hs hS hun hdep
        have e4 : a'.eval (.tmp 4) = .pointer (some ⟨w.heap.size, 0, none⟩) := (hs.out 4 (by kernel_rfl)).trans (rfl)
        refine g_val (.pointer (some ⟨w.heap.size, 2, none⟩)) hS rfl ?_ rfl
        have hcn := BigFrame.eval_const a'; have hfn := BigFrame.eval_func a'; clear hs hdep; generalize a'.eval = ev at *; go_simp
      · go_light; intro listed a' w' hs hS hun hdep
        have e70 : a'.eval (.tmp 70) = (.pointer (some ⟨w.heap.size, 2, none⟩)) := hs.eval 5 _ 70 rfl (hdep ⟨5, .data⟩ (by simp) rfl) rfl
        exact g_val (.int .i64 qp) hS rfl (op_ld1 (.int .i64 qp) rfl e70 (LA.out.below hS) 2 (by first | rfl | simp) rfl Try.underlying3 rfl) rfl
      · go_light; intro listed a' w' hs hS hun hdep
        have e4 : a'.eval (.tmp 4) = .pointer (some ⟨w.heap.size, 0, none⟩) := (hs.out 4 (by kernel_rfl)).trans (rfl)
        refine g_val (.pointer (some ⟨w.heap.size, 3, none⟩)) hS rfl ?_ rfl
        have hcn := BigFrame.eval_const a'; have hfn := BigFrame.eval_func a'; clear hs hdep; generalize a'.eval = ev at *; go_simp
      · go_light; intro listed a' w' hs hS hun hdep
        have e72 : a'.eval (.tmp 72) = (.pointer (some ⟨w.heap.size, 3, none⟩)) := hs.eval 7 _ 72 rfl (hdep ⟨7, .data⟩ (by simp) rfl) rfl
        exact g_val (.int .u32 qs) hS rfl (op_ld1 (.int .u32 qs) rfl e72 (LA.out.below hS) 3 (by first | rfl | simp) rfl Try.underlying23 rfl) rfl
      · go_light; intro listed a' w' hs hS hun hdep
        have e4 : a'.eval (.tmp 4) = .pointer (some ⟨w.heap.size, 0, none⟩) := (hs.out 4 (by kernel_rfl)).trans (rfl)
        refine g_val (.pointer (some ⟨w.heap.size, 4, none⟩)) hS rfl ?_ rfl
        have hcn := BigFrame.eval_const a'; have hfn := BigFrame.eval_func a'; clear hs hdep; generalize a'.eval = ev at *; go_simp
      · go_light; intro listed a' w' hs hS hun hdep
        have e74 : a'.eval (.tmp 74) = (.pointer (some ⟨w.heap.size, 4, none⟩)) := hs.eval 9 _ 74 rfl (hdep ⟨9, .data⟩ (by simp) rfl) rfl
        exact g_val (.int .u32 qd) hS rfl (op_ld1 (.int .u32 qd) rfl e74 (LA.out.below hS) 4 (by first | rfl | simp) rfl Try.underlying23 rfl) rfl
      · go_light; intro listed a' w' hs hS hun hdep
        have e65 : a'.eval (.tmp 65) = (.slice a0 l.length cap) := hs.eval 0 _ 65 rfl (hdep ⟨0, .data⟩ (by simp) rfl) rfl
        have e67 : a'.eval (.tmp 67) = (.int .i64 qi) := hs.eval 2 _ 67 rfl (hdep ⟨2, .data⟩ (by simp) rfl) rfl
        have e69 : a'.eval (.tmp 69) = (.int .i64 ql) := hs.eval 4 _ 69 rfl (hdep ⟨4, .data⟩ (by simp) rfl) rfl
        have e71 : a'.eval (.tmp 71) = (.int .i64 qp) := hs.eval 6 _ 71 rfl (hdep ⟨6, .data⟩ (by simp) rfl) rfl
        have e73 : a'.eval (.tmp 73) = (.int .u32 qs) := hs.eval 8 _ 73 rfl (hdep ⟨8, .data⟩ (by simp) rfl) rfl
        have e75 : a'.eval (.tmp 75) = (.int .u32 qd) := hs.eval 10 _ 75 rfl (hdep ⟨10, .data⟩ (by simp) rfl) rfl
        refine g_call 25 #[.slice a0 l.length cap, .int .i64 qi, .int .i64 ql, .int .i64 qp, .int .u32 qs, .int .u32 qd] hS rfl ?_ ?_
        · have hcn := BigFrame.eval_const a'; have hfn := BigFrame.eval_func a'; clear hs hdep; generalize a'.eval = ev at *; go_simp
        · exact c_val (C76.out w' hS) rfl
      · go_light; intro listed a' w' hs hS hun hdep
        have e7 : a'.eval (.tmp 7) = .int .i64 fi := (hs.out 7 (by kernel_rfl)).trans (rfl)
        exact g_val (.int .i64 fi) hS rfl (op_move rfl e7) rfl
      · go_light; intro listed a' w' hs hS hun hdep
        have e76 : a'.eval (.tmp 76) = (.int .i64 fi) := hs.eval 11 _ 76 rfl (hdep ⟨11, .data⟩ (by simp) rfl) rfl
        have e77 : a'.eval (.tmp 77) = (.int .i64 fi) := hs.eval 12 _ 77 rfl (hdep ⟨12, .data⟩ (by simp) rfl) rfl
        refine g_val (.bool m78) hS rfl ?_ rfl
        rw [← hm78.out]
        have hcn := BigFrame.eval_const a'; have hfn := BigFrame.eval_func a'; clear hs hdep; generalize a'.eval = ev at *; go_simp; try rfl
      · go_light; intro listed a' w' hs hS hun hdep
        have e78 : a'.eval (.tmp 78) = (.bool m78) := hs.eval 13 _ 78 rfl (hdep ⟨13, .data⟩ (by simp) rfl) rfl
        exact g_val (.bool m78) hS rfl (op_move rfl e78) rfl
      · go_light; intro listed a' w' hs hS hun hdep
        have eg : a'.eval (.tmp 79) = (.bool m78) := hs.eval 14 _ 79 rfl (hdep ⟨14, .guard⟩ (by simp) rfl) rfl
        have e0 : a'.eval (.tmp 0) = .slice a0 l.length cap := (hs.out 0 (by kernel_rfl)).trans (rfl)
        cases m78
        · exact g_not hS (wanted_no rfl rfl rfl eg (by decide)) rfl
        · exact g_val (.slice a0 l.length cap) hS (wanted_yes rfl rfl rfl eg) (op_move rfl e0) rfl
      · go_light; intro listed a' w' hs hS hun hdep
        have eg : a'.eval (.tmp 79) = (.bool m78) := hs.eval 14 _ 79 rfl (hdep ⟨14, .guard⟩ (by simp) rfl) rfl
        have e4 : a'.eval (.tmp 4) = .pointer (some ⟨w.heap.size, 0, none⟩) := (hs.out 4 (by kernel_rfl)).trans (rfl)
        cases m78
        · exact g_not hS (wanted_no rfl rfl rfl eg (by decide)) rfl
        · refine g_val (.pointer (some ⟨w.heap.size, 0, none⟩)) hS (wanted_yes rfl rfl rfl eg) ?_ rfl
          have hcn := BigFrame.eval_const a'; have hfn := BigFrame.eval_func a'; clear hs hdep; generalize a'.eval = ev at *; go_simp
      · go_light; intro listed a' w' hs hS hun hdep
        have eg : a'.eval (.tmp 79) = (.bool m78) := hs.eval 14 _ 79 rfl (hdep ⟨14, .guard⟩ (by simp) rfl) rfl
        have e81 : a'.eval (.tmp 81) = (if m78 = true then .pointer (some ⟨w.heap.size, 0, none⟩) else undef) := hs.eval 16 _ 81 rfl (hdep ⟨16, .data⟩ (by simp) rfl) rfl
        cases m78
        · exact g_not hS (wanted_no rfl rfl rfl eg (by decide)) rfl
        · replace e81 := e81.trans (if_pos rfl)
          exact g_val (.int .i64 qi) hS (wanted_yes rfl rfl rfl eg) (op_ld1 (.int .i64 qi) rfl e81 (LA.out.below hS) 0 (by first | rfl | simp) rfl Try.underlying3 rfl) rfl
      · go_light; intro listed a' w' hs hS hun hdep
        have eg : a'.eval (.tmp 79) = (.bool m78) := hs.eval 14 _ 79 rfl (hdep ⟨14, .guard⟩ (by simp) rfl) rfl
        have e4 : a'.eval (.tmp 4) = .pointer (some ⟨w.heap.size, 0, none⟩) := (hs.out 4 (by kernel_rfl)).trans (rfl)
        cases m78
        · exact g_not hS (wanted_no rfl rfl rfl eg (by decide)) rfl
        · refine g_val (.pointer (some ⟨w.heap.size, 1, none⟩)) hS (wanted_yes rfl rfl rfl eg) ?_ rfl
          have hcn := BigFrame.eval_const a'; have hfn := BigFrame.eval_func a'; clear hs hdep; generalize a'.eval = ev at *; go_simp
      · go_light; intro listed a' w' hs hS hun hdep
        have eg : a'.eval (.tmp 79) = (.bool m78) := hs.eval 14 _ 79 rfl (hdep ⟨14, .guard⟩ (by simp) rfl) rfl
        have e83 : a'.eval (.tmp 83) = (if m78 = true then .pointer (some ⟨w.heap.size, 1, none⟩) else undef) := hs.eval 18 _ 83 rfl (hdep ⟨18, .data⟩ (by simp) rfl) rfl
        cases m78
        · exact g_not hS (wanted_no rfl rfl rfl eg (by decide)) rfl
        · replace e83 := e83.trans (if_pos rfl)
          exact g_val (.int .i64 ql) hS (wanted_yes rfl rfl rfl eg) (op_ld1 (.int .i64 ql) rfl e83 (LA.out.below hS) 1 (by first | rfl | simp) rfl Try.underlying3 rfl) rfl
      · go_light; intro listed a' w' hs hS hun hdep
        have eg : a'.eval (.tmp 79) = (.bool m78) := hs.eval 14 _ 79 rfl (hdep ⟨14, .guard⟩ (by simp) rfl) rfl
        have e4 : a'.eval (.tmp 4) = .pointer (some ⟨w.heap.size, 0, none⟩) := (hs.out 4 (by kernel_rfl)).trans (rfl)
        cases m78
        · exact g_not hS (wanted_no rfl rfl rfl eg (by decide)) rfl
        · refine g_val (.pointer (some ⟨w.heap.size, 2, none⟩)) hS (wanted_yes rfl rfl rfl eg) ?_ rfl
          have hcn := BigFrame.eval_const a'; have hfn := BigFrame.eval_func a'; clear hs hdep; generalize a'.eval = ev at *; go_simp
      · go_light; intro listed a' w' hs hS hun hdep
        have eg : a'.eval (.tmp 79) = (.bool m78) := hs.eval 14 _ 79 rfl (hdep ⟨14, .guard⟩ (by simp) rfl) rfl
        have e85 : a'.eval (.tmp 85) = (if m78 = true then .pointer (some ⟨w.heap.size, 2, none⟩) else undef) := hs.eval 20 _ 85 rfl (hdep ⟨20, .data⟩ (by simp) rfl) rfl
        cases m78
        · exact g_not hS (wanted_no rfl rfl rfl eg (by decide)) rfl
        · replace e85 := e85.trans (if_pos rfl)
          exact g_val (.int .i64 qp) hS (wanted_yes rfl rfl rfl eg) (op_ld1 (.int .i64 qp) rfl e85 (LA.out.below hS) 2 (by first | rfl | simp) rfl Try.underlying3 rfl) rfl
      · go_light; intro listed a' w' hs hS hun hdep
        have eg : a'.eval (.tmp 79) = (.bool m78) := hs.eval 14 _ 79 rfl (hdep ⟨14, .guard⟩ (by simp) rfl) rfl
        have e4 : a'.eval (.tmp 4) = .pointer (some ⟨w.heap.size, 0, none⟩) := (hs.out 4 (by kernel_rfl)).trans (rfl)
        cases m78
        · exact g_not hS (wanted_no rfl rfl rfl eg (by decide)) rfl
        · refine g_val (.pointer (some ⟨w.heap.size, 3, none⟩)) hS (wanted_yes rfl rfl rfl eg) ?_ rfl
          have hcn := BigFrame.eval_const a'; have hfn := BigFrame.eval_func a'; clear hs hdep; generalize a'.eval = ev at *; go_simp
      · go_light; intro listed a' w' hs hS hun hdep
        have eg : a'.eval (.tmp 79) = (.bool m78) := hs.eval 14 _ 79 rfl (hdep ⟨14, .guard⟩ (by simp) rfl) rfl
        have e87 : a'.eval (.tmp 87) = (if m78 = true then .pointer (some ⟨w.heap.size, 3, none⟩) else undef) := hs.eval 22 _ 87 rfl (hdep ⟨22, .data⟩ (by simp) rfl) rfl
        cases m78
        · exact g_not hS (wanted_no rfl rfl rfl eg (by decide)) rfl
        · replace e87 := e87.trans (if_pos rfl)
          exact g_val (.int .u32 qs) hS (wanted_yes rfl rfl rfl eg) (op_ld1 (.int .u32 qs) rfl e87 (LA.out.below hS) 3 (by first | rfl | simp) rfl Try.underlying23 rfl) rfl
      · go_light; intro listed a' w' hs hS hun hdep
        have eg : a'.eval (.tmp 79) = (.bool m78) := hs.eval 14 _ 79 rfl (hdep ⟨14, .guard⟩ (by simp) rfl) rfl
        have e4 : a'.eval (.tmp 4) = .pointer (some ⟨w.heap.size, 0, none⟩) := (hs.out 4 (by kernel_rfl)).trans (rfl)
        cases m78
        · exact g_not hS (wanted_no rfl rfl rfl eg (by decide)) rfl
        · refine g_val (.pointer (some ⟨w.heap.size, 4, none⟩)) hS (wanted_yes rfl rfl rfl eg) ?_ rfl
          have hcn := BigFrame.eval_const a'; have hfn := BigFrame.eval_func a'; clear hs hdep; generalize a'.eval = ev at *; go_simp
      · go_light; intro listed a' w' hs hS hun hdep
        have eg : a'.eval (.tmp 79) = (.bool m78) := hs.eval 14 _ 79 rfl (hdep ⟨14, .guard⟩ (by simp) rfl) rfl
        have e89 : a'.eval (.tmp 89) = (if m78 = true then .pointer (some ⟨w.heap.size, 4, none⟩) else undef) := hs.eval 24 _ 89 rfl (hdep ⟨24, .data⟩ (by simp) rfl) rfl
        cases m78
        · exact g_not hS (wanted_no rfl rfl rfl eg (by decide)) rfl
        · replace e89 := e89.trans (if_pos rfl)
          exact g_val (.int .u32 qd) hS (wanted_yes rfl rfl rfl eg) (op_ld1 (.int .u32 qd) rfl e89 (LA.out.below hS) 4 (by first | rfl | simp) rfl Try.underlying23 rfl) rfl
      · go_light; intro listed a' w' hs hS hun hdep
        have eg : a'.eval (.tmp 79) = (.bool m78) := hs.eval 14 _ 79 rfl (hdep ⟨14, .guard⟩ (by simp) rfl) rfl
        have e80 : a'.eval (.tmp 80) = (if m78 = true then .slice a0 l.length cap else undef) := hs.eval 15 _ 80 rfl (hdep ⟨15, .data⟩ (by simp) rfl) rfl
        have e82 : a'.eval (.tmp 82) = (if m78 = true then .int .i64 qi else undef) := hs.eval 17 _ 82 rfl (hdep ⟨17, .data⟩ (by simp) rfl) rfl
        have e84 : a'.eval (.tmp 84) = (if m78 = true then .int .i64 ql else undef) := hs.eval 19 _ 84 rfl (hdep ⟨19, .data⟩ (by simp) rfl) rfl
        have e86 : a'.eval (.tmp 86) = (if m78 = true then .int .i64 qp else undef) := hs.eval 21 _ 86 rfl (hdep ⟨21, .data⟩ (by simp) rfl) rfl
        have e88 : a'.eval (.tmp 88) = (if m78 = true then .int .u32 qs else undef) := hs.eval 23 _ 88 rfl (hdep ⟨23, .data⟩ (by simp) rfl) rfl
        have e90 : a'.eval (.tmp 90) = (if m78 = true then .int .u32 qd else undef) := hs.eval 25 _ 90 rfl (hdep ⟨25, .data⟩ (by simp) rfl) rfl
        cases m78
        · exact g_not hS (wanted_no rfl rfl rfl eg (by decide)) rfl
        · replace e80 := e80.trans (if_pos rfl)
          replace e82 := e82.trans (if_pos rfl)
          replace e84 := e84.trans (if_pos rfl)
          replace e86 := e86.trans (if_pos rfl)
          replace e88 := e88.trans (if_pos rfl)
          replace e90 := e90.trans (if_pos rfl)
          refine g_call 26 #[.slice a0 l.length cap, .int .i64 qi, .int .i64 ql, .int .i64 qp, .int .u32 qs, .int .u32 qd] hS (wanted_yes rfl rfl rfl eg) ?_ ?_
          · have hcn := BigFrame.eval_const a'; have hfn := BigFrame.eval_func a'; clear hs hdep; generalize a'.eval = ev at *; go_simp
          · exact c_val (C91.out w' hS) rfl
      · go_light; intro listed a' w' hs hS hun hdep
        have eg : a'.eval (.tmp 79) = (.bool m78) := hs.eval 14 _ 79 rfl (hdep ⟨14, .guard⟩ (by simp) rfl) rfl
        have e0 : a'.eval (.tmp 0) = .slice a0 l.length cap := (hs.out 0 (by kernel_rfl)).trans (rfl)
        cases m78
        · exact g_not hS (wanted_no rfl rfl rfl eg (by decide)) rfl
        · exact g_val (.slice a0 l.length cap) hS (wanted_yes rfl rfl rfl eg) (op_move rfl e0) rfl
      · go_light; intro listed a' w' hs hS hun hdep
        have eg : a'.eval (.tmp 79) = (.bool m78) := hs.eval 14 _ 79 rfl (hdep ⟨14, .guard⟩ (by simp) rfl) rfl
        have e4 : a'.eval (.tmp 4) = .pointer (some ⟨w.heap.size, 0, none⟩) := (hs.out 4 (by kernel_rfl)).trans (rfl)
        cases m78
        · exact g_not hS (wanted_no rfl rfl rfl eg (by decide)) rfl
        · refine g_val (.pointer (some ⟨w.heap.size, 0, none⟩)) hS (wanted_yes rfl rfl rfl eg) ?_ rfl
          have hcn := BigFrame.eval_const a'; have hfn := BigFrame.eval_func a'; clear hs hdep; generalize a'.eval = ev at *; go_simp
      · go_light; intro listed a' w' hs hS hun hdep
        have eg : a'.eval (.tmp 79) = (.bool m78) := hs.eval 14 _ 79 rfl (hdep ⟨14, .guard⟩ (by simp) rfl) rfl
        have e93 : a'.eval (.tmp 93) = (if m78 = true then .pointer (some ⟨w.heap.size, 0, none⟩) else undef) := hs.eval 28 _ 93 rfl (hdep ⟨28, .data⟩ (by simp) rfl) rfl
        cases m78
        · exact g_not hS (wanted_no rfl rfl rfl eg (by decide)) rfl
        · replace e93 := e93.trans (if_pos rfl)
          exact g_val (.int .i64 qi) hS (wanted_yes rfl rfl rfl eg) (op_ld1 (.int .i64 qi) rfl e93 (LA.out.below hS) 0 (by first | rfl | simp) rfl Try.underlying3 rfl) rfl
      · go_light; intro listed a' w' hs hS hun hdep
        have eg : a'.eval (.tmp 79) = (.bool m78) := hs.eval 14 _ 79 rfl (hdep ⟨14, .guard⟩ (by simp) rfl) rfl
        have e4 : a'.eval (.tmp 4) = .pointer (some ⟨w.heap.size, 0, none⟩) := (hs.out 4 (by kernel_rfl)).trans (rfl)
        cases m78
        · exact g_not hS (wanted_no rfl rfl rfl eg (by decide)) rfl
        · refine g_val (.pointer (some ⟨w.heap.size, 1, none⟩)) hS (wanted_yes rfl rfl rfl eg) ?_ rfl
          have hcn := BigFrame.eval_const a'; have hfn := BigFrame.eval_func a'; clear hs hdep; generalize a'.eval = ev at *; go_simp
      · go_light; intro listed a' w' hs hS hun hdep
        have eg : a'.eval (.tmp 79) = (.bool m78) := hs.eval 14 _ 79 rfl (hdep ⟨14, .guard⟩ (by simp) rfl) rfl
        have e95 : a'.eval (.tmp 95) = (if m78 = true then .pointer (some ⟨w.heap.size, 1, none⟩) else undef) := hs.eval 30 _ 95 rfl (hdep ⟨30, .data⟩ (by simp) rfl) rfl
        cases m78
        · exact g_not hS (wanted_no rfl rfl rfl eg (by decide)) rfl
        · replace e95 := e95.trans (if_pos rfl)
          exact g_val (.int .i64 ql) hS (wanted_yes rfl rfl rfl eg) (op_ld1 (.int .i64 ql) rfl e95 (LA.out.below hS) 1 (by first | rfl | simp) rfl Try.underlying3 rfl) rfl
      · go_light; intro listed a' w' hs hS hun hdep
        have eg : a'.eval (.tmp 79) = (.bool m78) := hs.eval 14 _ 79 rfl (hdep ⟨14, .guard⟩ (by simp) rfl) rfl
        have e4 : a'.eval (.tmp 4) = .pointer (some ⟨w.heap.size, 0, none⟩) := (hs.out 4 (by kernel_rfl)).trans (rfl)
        cases m78
        · exact g_not hS (wanted_no rfl rfl rfl eg (by decide)) rfl
        · refine g_val (.pointer (some ⟨w.heap.size, 2, none⟩)) hS (wanted_yes rfl rfl rfl eg) ?_ rfl
          have hcn := BigFrame.eval_const a'; have hfn := BigFrame.eval_func a'; clear hs hdep; generalize a'.eval = ev at *; go_simp
      · go_light; intro listed a' w' hs hS hun hdep
        have eg : a'.eval (.tmp 79) = (.bool m78) := hs.eval 14 _ 79 rfl (hdep ⟨14, .guard⟩ (by simp) rfl) rfl
        have e97 : a'.eval (.tmp 97) = (if m78 = true then .pointer (some ⟨w.heap.size, 2, none⟩) else undef) := hs.eval 32 _ 97 rfl (hdep ⟨32, .data⟩ (by simp) rfl) rfl
        cases m78
        · exact g_not hS (wanted_no rfl rfl rfl eg (by decide)) rfl
        · replace e97 := e97.trans (if_pos rfl)
          exact g_val (.int .i64 qp) hS (wanted_yes rfl rfl rfl eg) (op_ld1 (.int .i64 qp) rfl e97 (LA.out.below hS) 2 (by first | rfl | simp) rfl Try.underlying3 rfl) rfl
      · go_light; intro listed a' w' hs hS hun hdep
        have eg : a'.eval (.tmp 79) = (.bool m78) := hs.eval 14 _ 79 rfl (hdep ⟨14, .guard⟩ (by simp) rfl) rfl
        have e4 : a'.eval (.tmp 4) = .pointer (some ⟨w.heap.size, 0, none⟩) := (hs.out 4 (by kernel_rfl)).trans (rfl)
        cases m78
        · exact g_not hS (wanted_no rfl rfl rfl eg (by decide)) rfl
        · refine g_val (.pointer (some ⟨w.heap.size, 3, none⟩)) hS (wanted_yes rfl rfl rfl eg) ?_ rfl
          have hcn := BigFrame.eval_const a'; have hfn := BigFrame.eval_func a'; clear hs hdep; generalize a'.eval = ev at *; go_simp
      · go_light; intro listed a' w' hs hS hun hdep
        have eg : a'.eval (.tmp 79) = (.bool m78) := hs.eval 14 _ 79 rfl (hdep ⟨14, .guard⟩ (by simp) rfl) rfl
        have e99 : a'.eval (.tmp 99) = (if m78 = true then .pointer (some ⟨w.heap.size, 3, none⟩) else undef) := hs.eval 34 _ 99 rfl (hdep ⟨34, .data⟩ (by simp) rfl) rfl
        cases m78
        · exact g_not hS (wanted_no rfl rfl rfl eg (by decide)) rfl
        · replace e99 := e99.trans (if_pos rfl)
          exact g_val (.int .u32 qs) hS (wanted_yes rfl rfl rfl eg) (op_ld1 (.int .u32 qs) rfl e99 (LA.out.below hS) 3 (by first | rfl | simp) rfl Try.underlying23 rfl) rfl
      · go_light; intro listed a' w' hs hS hun hdep
        have eg : a'.eval (.tmp 79) = (.bool m78) := hs.eval 14 _ 79 rfl (hdep ⟨14, .guard⟩ (by simp) rfl) rfl
        have e4 : a'.eval (.tmp 4) = .pointer (some ⟨w.heap.size, 0, none⟩) := (hs.out 4 (by kernel_rfl)).trans (rfl)
        cases m78
        · exact g_not hS (wanted_no rfl rfl rfl eg (by decide)) rfl
        · refine g_val (.pointer (some ⟨w.heap.size, 4, none⟩)) hS (wanted_yes rfl rfl rfl eg) ?_ rfl
          have hcn := BigFrame.eval_const a'; have hfn := BigFrame.eval_func a'; clear hs hdep; generalize a'.eval = ev at *; go_simp
      · go_light; intro listed a' w' hs hS hun hdep
        have eg : a'.eval (.tmp 79) = (.bool m78) := hs.eval 14 _ 79 rfl (hdep ⟨14, .guard⟩ (by simp) rfl) rfl
        have e101 : a'.eval (.tmp 101) = (if m78 = true then .pointer (some ⟨w.heap.size, 4, none⟩) else undef) := hs.eval 36 _ 101 rfl (hdep ⟨36, .data⟩ (by simp) rfl) rfl
        cases m78
        · exact g_not hS (wanted_no rfl rfl rfl eg (by decide)) rfl
        · replace e101 := e101.trans (if_pos rfl)
          exact g_val (.int .u32 qd) hS (wanted_yes rfl rfl rfl eg) (op_ld1 (.int .u32 qd) rfl e101 (LA.out.below hS) 4 (by first | rfl | simp) rfl Try.underlying23 rfl) rfl
      · go_light; intro listed a' w' hs hS hun hdep
        have eg : a'.eval (.tmp 79) = (.bool m78) := hs.eval 14 _ 79 rfl (hdep ⟨14, .guard⟩ (by simp) rfl) rfl
        have e92 : a'.eval (.tmp 92) = (if m78 = true then .slice a0 l.length cap else undef) := hs.eval 27 _ 92 rfl (hdep ⟨27, .data⟩ (by simp) rfl) rfl
        have e94 : a'.eval (.tmp 94) = (if m78 = true then .int .i64 qi else undef) := hs.eval 29 _ 94 rfl (hdep ⟨29, .data⟩ (by simp) rfl) rfl
        have e96 : a'.eval (.tmp 96) = (if m78 = true then .int .i64 ql else undef) := hs.eval 31 _ 96 rfl (hdep ⟨31, .data⟩ (by simp) rfl) rfl
        have e98 : a'.eval (.tmp 98) = (if m78 = true then .int .i64 qp else undef) := hs.eval 33 _ 98 rfl (hdep ⟨33, .data⟩ (by simp) rfl) rfl
        have e100 : a'.eval (.tmp 100) = (if m78 = true then .int .u32 qs else undef) := hs.eval 35 _ 100 rfl (hdep ⟨35, .data⟩ (by simp) rfl) rfl
        have e102 : a'.eval (.tmp 102) = (if m78 = true then .int .u32 qd else undef) := hs.eval 37 _ 102 rfl (hdep ⟨37, .data⟩ (by simp) rfl) rfl
        cases m78
        · exact g_not hS (wanted_no rfl rfl rfl eg (by decide)) rfl
        · replace e92 := e92.trans (if_pos rfl)
          replace e94 := e94.trans (if_pos rfl)
          replace e96 := e96.trans (if_pos rfl)
          replace e98 := e98.trans (if_pos rfl)
          replace e100 := e100.trans (if_pos rfl)
          replace e102 := e102.trans (if_pos rfl)
          refine g_call 27 #[.slice a0 l.length cap, .int .i64 qi, .int .i64 ql, .int .i64 qp, .int .u32 qs, .int .u32 qd] hS (wanted_yes rfl rfl rfl eg) ?_ ?_
          · have hcn := BigFrame.eval_const a'; have hfn := BigFrame.eval_func a'; clear hs hdep; generalize a'.eval = ev at *; go_simp
          · exact c_val (C103.out w' hS) rfl
      · go_light; intro listed a' w' hs hS hun hdep
        have eg : a'.eval (.tmp 79) = (.bool m78) := hs.eval 14 _ 79 rfl (hdep ⟨14, .guard⟩ (by simp) rfl) rfl
        have e91 : a'.eval (.tmp 91) = (if m78 = true then .int .i64 gt else undef) := hs.eval 26 _ 91 rfl (hdep ⟨26, .data⟩ (by simp) rfl) rfl
        have e103 : a'.eval (.tmp 103) = (if m78 = true then .int .i64 gt else undef) := hs.eval 38 _ 103 rfl (hdep ⟨38, .data⟩ (by simp) rfl) rfl
        cases m78
        · exact g_not hS (wanted_no rfl rfl rfl eg (by decide)) rfl
        · replace e91 := e91.trans (if_pos rfl)
          replace e103 := e103.trans (if_pos rfl)
          refine g_val (.bool m104) hS (wanted_yes rfl rfl rfl eg) ?_ rfl
          rw [← hm104.out]
          have hcn := BigFrame.eval_const a'; have hfn := BigFrame.eval_func a'; clear hs hdep; generalize a'.eval = ev at *; go_simp; try rfl
      · go_light; intro listed a' w' hs hS hun hdep
        have e79 : a'.eval (.tmp 79) = (.bool m78) := hs.eval 14 _ 79 rfl (hdep ⟨14, .data⟩ (by simp) rfl) rfl
        have e104 : a'.eval (.tmp 104) = (if m78 = true then .bool m104 else undef) := hs.eval 39 _ 104 rfl (hdep ⟨39, .data⟩ (by simp) rfl) rfl
        refine g_val (.bool m105) hS rfl ?_ rfl
        cases m78
        · replace e104 := e104.trans (if_neg (by decide))
          exact (op_pick_f rfl e79 (BigFrame.eval_const a' _)).trans (by rw [← hm105.out]; first | rfl | simp)
        · replace e104 := e104.trans (if_pos rfl)
          exact (op_pick_t rfl e79 e104).trans (by rw [← hm105.out]; first | rfl | simp)
      · go_light; intro listed a' w' hs hS hun hdep
        have e105 : a'.eval (.tmp 105) = (.bool m105) := hs.eval 40 _ 105 rfl (hdep ⟨40, .data⟩ (by simp) rfl) rfl
        exact g_val (.bool m105) hS rfl (op_move rfl e105) rfl
      · go_light; intro listed a' w' hs hS hun hdep
        have eg : a'.eval (.tmp 106) = (.bool m105) := hs.eval 41 _ 106 rfl (hdep ⟨41, .guard⟩ (by simp) rfl) rfl
        have e2 : a'.eval (.tmp 2) = .int .i64 mm := (hs.out 2 (by kernel_rfl)).trans (rfl)
        cases m105
        · exact g_not hS (wanted_no rfl rfl rfl eg (by decide)) rfl
        · exact g_val (.int .i64 mm) hS (wanted_yes rfl rfl rfl eg) (op_move rfl e2) rfl
      · go_light; intro listed a' w' hs hS hun hdep
        have eg : a'.eval (.tmp 106) = (.bool m105) := hs.eval 41 _ 106 rfl (hdep ⟨41, .guard⟩ (by simp) rfl) rfl
        have e0 : a'.eval (.tmp 0) = .slice a0 l.length cap := (hs.out 0 (by kernel_rfl)).trans (rfl)
        cases m105
        · exact g_not hS (wanted_no rfl rfl rfl eg (by decide)) rfl
        · exact g_val (.slice a0 l.length cap) hS (wanted_yes rfl rfl rfl eg) (op_move rfl e0) rfl
      · go_light; intro listed a' w' hs hS hun hdep
        have eg : a'.eval (.tmp 106) = (.bool m105) := hs.eval 41 _ 106 rfl (hdep ⟨41, .guard⟩ (by simp) rfl) rfl
        have e107 : a'.eval (.tmp 107) = (if m105 = true then .int .i64 mm else undef) := hs.eval 42 _ 107 rfl (hdep ⟨42, .data⟩ (by simp) rfl) rfl
        have e108 : a'.eval (.tmp 108) = (if m105 = true then .slice a0 l.length cap else undef) := hs.eval 43 _ 108 rfl (hdep ⟨43, .data⟩ (by simp) rfl) rfl
        cases m105
        · exact g_not hS (wanted_no rfl rfl rfl eg (by decide)) rfl
        · replace e107 := e107.trans (if_pos rfl)
          replace e108 := e108.trans (if_pos rfl)
          refine g_call 28 #[.int .i64 mm, .slice a0 l.length cap] hS (wanted_yes rfl rfl rfl eg) ?_ ?_
          · have hcn := BigFrame.eval_const a'; have hfn := BigFrame.eval_func a'; clear hs hdep; generalize a'.eval = ev at *; go_simp
          · exact c_val (C109.out w' hS) rfl
      · go_light; intro listed a' w' hs hS hun hdep
        have eg : a'.eval (.tmp 106) = (.bool m105) := hs.eval 41 _ 106 rfl (hdep ⟨41, .guard⟩ (by simp) rfl) rfl
        have e8 : a'.eval (.tmp 8) = .bool rt := (hs.out 8 (by kernel_rfl)).trans (rfl)
        cases m105
        · exact g_not hS (wanted_no rfl rfl rfl eg (by decide)) rfl
        · exact g_val (.bool rt) hS (wanted_yes rfl rfl rfl eg) (op_move rfl e8) rfl
      · go_light; intro listed a' w' hs hS hun hdep
        have eg : a'.eval (.tmp 106) = (.bool m105) := hs.eval 41 _ 106 rfl (hdep ⟨41, .guard⟩ (by simp) rfl) rfl
        have e109 : a'.eval (.tmp 109) = (if m105 = true then .bool m109 else undef) := hs.eval 44 _ 109 rfl (hdep ⟨44, .data⟩ (by simp) rfl) rfl
        have e110 : a'.eval (.tmp 110) = (if m105 = true then .bool rt else undef) := hs.eval 45 _ 110 rfl (hdep ⟨45, .data⟩ (by simp) rfl) rfl
        cases m105
        · exact g_not hS (wanted_no rfl rfl rfl eg (by decide)) rfl
        · replace e109 := e109.trans (if_pos rfl)
          replace e110 := e110.trans (if_pos rfl)
          exact g_val (.bool m111) hS (wanted_yes rfl rfl rfl eg) ((op_eqlb rfl e109 e110 Try.underlying4).trans (by rw [hm111.out])) rfl
      · go_light; intro listed a' w' hs hS hun hdep
        have e106 : a'.eval (.tmp 106) = (.bool m105) := hs.eval 41 _ 106 rfl (hdep ⟨41, .data⟩ (by simp) rfl) rfl
        have e111 : a'.eval (.tmp 111) = (if m105 = true then .bool m111 else undef) := hs.eval 46 _ 111 rfl (hdep ⟨46, .data⟩ (by simp) rfl) rfl
        refine g_val (.bool m112) hS rfl ?_ rfl
        cases m105
        · replace e111 := e111.trans (if_neg (by decide))
          exact (op_pick_f rfl e106 (BigFrame.eval_const a' _)).trans (by rw [← hm112.out]; first | rfl | simp)
        · replace e111 := e111.trans (if_pos rfl)
          exact (op_pick_t rfl e106 e111).trans (by rw [← hm112.out]; first | rfl | simp)
      · go_light; intro listed a' w' hs hS hun hdep
        have e112 : a'.eval (.tmp 112) = (.bool m112) := hs.eval 47 _ 112 rfl (hdep ⟨47, .data⟩ (by simp) rfl) rfl
        exact g_val (.bool m112) hS rfl (op_move rfl e112) rfl
      · go_light; intro listed a' w' hs hS hun hdep
        have eg : a'.eval (.tmp 113) = (.bool m112) := hs.eval 48 _ 113 rfl (hdep ⟨48, .guard⟩ (by simp) rfl) rfl
        cases m112
        · exact g_not hS (wanted_no rfl rfl rfl eg (by decide)) rfl
        · refine g_call 21 #[] hS (wanted_yes rfl rfl rfl eg) ?_ ?_
          · have hcn := BigFrame.eval_const a'; have hfn := BigFrame.eval_func a'; clear hs hdep; generalize a'.eval = ev at *; go_simp
          · exact c_val (C114.out w' hS) rfl
      · go_light; intro listed a' w' hs hS hun hdep
        have e113 : a'.eval (.tmp 113) = (.bool m112) := hs.eval 48 _ 113 rfl (hdep ⟨48, .data⟩ (by simp) rfl) rfl
        have e114 : a'.eval (.tmp 114) = (if m112 = true then .bool true else undef) := hs.eval 49 _ 114 rfl (hdep ⟨49, .data⟩ (by simp) rfl) rfl
        refine g_val (.bool m115) hS rfl ?_ rfl
        cases m112
        · replace e114 := e114.trans (if_neg (by decide))
          exact (op_pick_f rfl e113 (BigFrame.eval_const a' _)).trans (by rw [← hm115.out]; first | rfl | simp)
        · replace e114 := e114.trans (if_pos rfl)
          exact (op_pick_t rfl e113 e114).trans (by rw [← hm115.out]; first | rfl | simp)
      · intro vs w3 hlen hV hS
        obtain ⟨v0, v1, v2, v3, v4, v5, v6, v7, v8, v9, v10, v11, v12, v13, v14, v15, v16, v17, v18, v19, v20, v21, v22, v23, v24, v25, v26, v27, v28, v29, v30, v31, v32, v33, v34, v35, v36, v37, v38, v39, v40, v41, v42, v43, v44, v45, v46, v47, v48, v49, v50, rfl⟩ := vs_51 vs (hlen.trans rfl)
        have q0 : v0 = .slice a0 l.length cap := hV 0 _ rfl
        have q1 : v1 = .pointer (some ⟨w.heap.size, 0, none⟩) := hV 1 _ rfl
        have q2 : v2 = .int .i64 qi := hV 2 _ rfl
        have q3 : v3 = .pointer (some ⟨w.heap.size, 1, none⟩) := hV 3 _ rfl
        have q4 : v4 = .int .i64 ql := hV 4 _ rfl
        have q5 : v5 = .pointer (some ⟨w.heap.size, 2, none⟩) := hV 5 _ rfl
        have q6 : v6 = .int .i64 qp := hV 6 _ rfl
        have q7 : v7 = .pointer (some ⟨w.heap.size, 3, none⟩) := hV 7 _ rfl
        have q8 : v8 = .int .u32 qs := hV 8 _ rfl
        have q9 : v9 = .pointer (some ⟨w.heap.size, 4, none⟩) := hV 9 _ rfl
        have q10 : v10 = .int .u32 qd := hV 10 _ rfl
        have q11 : v11 = .int .i64 fi := hV 11 _ rfl
        have q12 : v12 = .int .i64 fi := hV 12 _ rfl
        have q13 : v13 = .bool m78 := hV 13 _ rfl
        have q14 : v14 = .bool m78 := hV 14 _ rfl
        have q40 : v40 = .bool m105 := hV 40 _ rfl
        have q41 : v41 = .bool m105 := hV 41 _ rfl
        have q47 : v47 = .bool m112 := hV 47 _ rfl
        have q48 : v48 = .bool m112 := hV 48 _ rfl
        have q50 : v50 = .bool m115 := hV 50 _ rfl
        have hbel : Below wr.heap.size wr w3 := hS
        subst q0 q1 q2 q3 q4 q5 q6 q7 q8 q9 q10 q11 q12 q13 q14 q40 q41 q47 q48 q50
        clear hV hS hlen
        simp only [lays, Act.put, List.setIfInBounds_toArray, List.set_cons_zero, List.set_cons_succ, List.drop_succ_cons, List.drop_zero, List.take_succ_cons, List.take_zero]
        have h115 : m115 = true := by rw [← hm115.out, ← hm112.out, ← hm111.out, ← hm109.out, ← hm105.out, ← hm104.out, ← hm78.out]; simp
        have hb3 := hbw.trans (hbel.mono hbw.size)
        subst h115
        clear hm78 hm104 hm105 hm109 hm111 hm112 hm115 C76 C91 C103 C109 C114 hbel
        go_wp2
        go_ret
        exact ⟨rfl, hb3⟩
    · obtain ⟨k, rfl⟩ : ∃ k, k1 = k + 1 := ⟨k1 - 1, by omega⟩
      have hkl : k < l.length := by omega
      have hix : ((k + 1 : Nat) : Int) - 1 = (k : Int) := by omega
      rw [hix]
      have hkl2 : (k : Int) < (l.length : Int) := by omega
      have hk0' : (0 : Int) ≤ (k : Int) := by omega
      obtain ⟨b, off, rfl, hbl, hL⟩ := (HR.out.below hbw).at k _ (gu_get l k hkl)
      have hfin := HF.out _ (gu_mem l k hkl)
      have HAt2 : Hid ((gu l k).m ⟨qi, ql, qp, qs, qd⟩ = false → (at_ = -1 ∧ ∀ j, k ≤ j → j < l.length → (gu l j).m ⟨qi, ql, qp, qs, qd⟩ = false) ∨ (∃ j, k ≤ j ∧ j < l.length ∧ at_ = (j : Nat) ∧ (gu l j).m ⟨qi, ql, qp, qs, qd⟩ = true ∧ ∀ i, k ≤ i → i < j → (gu l i).m ⟨qi, ql, qp, qs, qd⟩ = false)) := Lib.hid (fun hne => by
        rcases HAt.out with ⟨h1, h2⟩ | ⟨j, h1, h2, h3, h4, h5⟩
        · refine .inl ⟨h1, fun j h3 h4 => ?_⟩
          rcases Nat.lt_or_ge k j with h5 | h5
          · exact h2 j h5 h4
          · obtain rfl : j = k := by omega
            exact hne
        · refine .inr ⟨j, by omega, h2, h3, h4, fun i h6 h7 => ?_⟩
          rcases Nat.lt_or_ge k i with h8 | h8
          · exact h5 i h8 h7
          · obtain rfl : i = k := by omega
            exact hne)
      have HAt3 : Hid ((gu l k).m ⟨qi, ql, qp, qs, qd⟩ = true → (((k : Nat) : Int) = -1 ∧ ∀ j, k ≤ j → j < l.length → (gu l j).m ⟨qi, ql, qp, qs, qd⟩ = false) ∨ (∃ j, k ≤ j ∧ j < l.length ∧ ((k : Nat) : Int) = (j : Nat) ∧ (gu l j).m ⟨qi, ql, qp, qs, qd⟩ = true ∧ ∀ i, k ≤ i → i < j → (gu l i).m ⟨qi, ql, qp, qs, qd⟩ = false)) := Lib.hid (fun he => .inr ⟨k, Nat.le_refl _, hkl, rfl, he, fun i h1 h2 => by omega⟩)
      have HRt2 : Hid ((rt && (gu l k).ok mm) = true ↔ ∀ j, k ≤ j → j < l.length → (gu l j).ok mm = true) := Lib.hid (by
        rw [Bool.and_eq_true, HRt.out]
        constructor
        · rintro ⟨h1, h2⟩ j h3 h4
          rcases Nat.lt_or_ge k j with h5 | h5
          · exact h1 j h5 h4
          · obtain rfl : j = k := by omega
            exact h2
        · intro h
          exact ⟨fun j h1 h2 => h j (by omega) h2, h k (Nat.le_refl _) hkl⟩)
      have LA := Lib.hid (LA0.out.below hb)
      have LR := Lib.hid hL
      clear HAt HRt hL HFI HTO HRT HRI HHit HMiss
      generalize gu l k = r at *
      obtain ⟨i, lb, sa, sb, da, db, p, tt⟩ := r
      have Hsa := Lib.hid hfin.1
      have Hda := Lib.hid hfin.2
      simp only [Gu.v] at LR
      clear hfin
      go_wp2
      obtain ⟨m36, hm36⟩ : ∃ x, ((⟨i, lb, sa, sb, da, db, p, tt⟩ : Gu).m ⟨qi, ql, qp, qs, qd⟩) = x := ⟨_, rfl⟩
      replace hm36 := Lib.hid hm36
      have C36 := Lib.hid (fun (w' : World) (hb : Below wr.heap.size wr w') => show Calls Try.prog 22 #[.agg #[.int .i64 i, .int .i64 lb, .int .u32 sa, .int .i64 sb, .int .u32 da, .int .i64 db, .int .i64 p, .int .i64 tt], .int .i64 qi, .int .i64 ql, .int .i64 qp, .int .u32 qs, .int .u32 qd] w' (fun e w'' => e = .returned (.bool m36) ∧ Below w'.heap.size w' w'') from (by rw [← hm36.out]; exact rgm_any ⟨i, lb, sa, sb, da, db, p, tt⟩ ⟨qi, ql, qp, qs, qd⟩ w' ⟨Hsa.out, Hda.out⟩ ⟨Hqs.out, Hqd.out⟩))
      refine region_gen_tail 15 (VG wr.heap.size [.val (.slice (some ⟨b, off, none⟩) l.length cap), .val (.int .i64 k), .val (.pointer (some ⟨b, off + k * 8, none⟩)), .val (.agg #[.int .i64 i, .int .i64 lb, .int .u32 sa, .int .i64 sb, .int .u32 da, .int .i64 db, .int .i64 p, .int .i64 tt]), .val (.pointer (some ⟨w.heap.size, 0, none⟩)), .val (.int .i64 qi), .val (.pointer (some ⟨w.heap.size, 1, none⟩)), .val (.int .i64 ql), .val (.pointer (some ⟨w.heap.size, 2, none⟩)), .val (.int .i64 qp), .val (.pointer (some ⟨w.heap.size, 3, none⟩)), .val (.int .u32 qs), .val (.pointer (some ⟨w.heap.size, 4, none⟩)), .val (.int .u32 qd), .val (.bool m36)]) (BS wr) (by kernel_rfl) (by kernel_rfl) (by kernel_rfl) (Below.refl _ _).drew ⟨?_, ?_, ?_, ?_, ?_, ?_, ?_, ?_, ?_, ?_, ?_, ?_, ?_, ?_, ?_, trivial⟩ ?_
      · go_light; intro listed a' w' hs hS hun hdep
        have e0 : a'.eval (.tmp 0) = .slice (some ⟨b, off, none⟩) l.length cap := (hs.out 0 (by kernel_rfl)).trans (rfl)
        exact g_val (.slice (some ⟨b, off, none⟩) l.length cap) hS rfl (op_move rfl e0) rfl
      · go_light; intro listed a' w' hs hS hun hdep
        have e9 : a'.eval (.tmp 9) = .int .i64 k := (hs.out 9 (by kernel_rfl)).trans (rfl)
        exact g_val (.int .i64 k) hS rfl (op_move rfl e9) rfl
      · go_light; intro listed a' w' hs hS hun hdep
        have e22 : a'.eval (.tmp 22) = (.slice (some ⟨b, off, none⟩) l.length cap) := hs.eval 0 _ 22 rfl (hdep ⟨0, .data⟩ (by simp) rfl) rfl
        have e23 : a'.eval (.tmp 23) = (.int .i64 k) := hs.eval 1 _ 23 rfl (hdep ⟨1, .data⟩ (by simp) rfl) rfl
        exact g_val (.pointer (some ⟨b, off + k * 8, none⟩)) hS rfl (op_ixa rfl e22 e23 Try.underlying45 (by kernel_rfl) hkl) rfl
      · go_light; intro listed a' w' hs hS hun hdep
        have e24 : a'.eval (.tmp 24) = (.pointer (some ⟨b, off + k * 8, none⟩)) := hs.eval 2 _ 24 rfl (hdep ⟨2, .data⟩ (by simp) rfl) rfl
        exact g_val (.agg #[.int .i64 i, .int .i64 lb, .int .u32 sa, .int .i64 sb, .int .u32 da, .int .i64 db, .int .i64 p, .int .i64 tt]) hS rfl (op_ld [.int .i64 i, .int .i64 lb, .int .u32 sa, .int .i64 sb, .int .u32 da, .int .i64 db, .int .i64 p, .int .i64 tt] rfl e24 (LR.out.below hS) 0 (by first | rfl | simp) rfl Try.underlying50 rfl (by kernel_rfl)) rfl
      · go_light; intro listed a' w' hs hS hun hdep
        have e4 : a'.eval (.tmp 4) = .pointer (some ⟨w.heap.size, 0, none⟩) := (hs.out 4 (by kernel_rfl)).trans (rfl)
        refine g_val (.pointer (some ⟨w.heap.size, 0, none⟩)) hS rfl ?_ rfl
        have hcn := BigFrame.eval_const a'; have hfn := BigFrame.eval_func a'; clear hs hdep; generalize a'.eval = ev at *; go_simp
      · go_light; intro listed a' w' hs hS hun hdep
        have e26 : a'.eval (.tmp 26) = (.pointer (some ⟨w.heap.size, 0, none⟩)) := hs.eval 4 _ 26 rfl (hdep ⟨4, .data⟩ (by simp) rfl) rfl
        exact g_val (.int .i64 qi) hS rfl (op_ld1 (.int .i64 qi) rfl e26 (LA.out.below hS) 0 (by first | rfl | simp) rfl Try.underlying3 rfl) rfl
      · go_light; intro listed a' w' hs hS hun hdep
        have e4 : a'.eval (.tmp 4) = .pointer (some ⟨w.heap.size, 0, none⟩) := (hs.out 4 (by kernel_rfl)).trans (rfl)
        refine g_val (.pointer (some ⟨w.heap.size, 1, none⟩)) hS rfl ?_ rfl
        have hcn := BigFrame.eval_const a'; have hfn := BigFrame.eval_func a'; clear hs hdep; generalize a'.eval = ev at *; go_simp
      · go_light; intro listed a' w' hs hS hun hdep
        have e28 : a'.eval (.tmp 28) = (.pointer (some ⟨w.heap.size, 1, none⟩)) := hs.eval 6 _ 28 rfl (hdep ⟨6, .data⟩ (by simp) rfl) rfl
        exact g_val (.int .i64 ql) hS rfl (op_ld1 (.int .i64 ql) rfl e28 (LA.out.below hS) 1 (by first | rfl | simp) rfl Try.underlying3 rfl) rfl
      · go_light; intro listed a' w' hs hS hun hdep
        have e4 : a'.eval (.tmp 4) = .pointer (some ⟨w.heap.size, 0, none⟩) := (hs.out 4 (by kernel_rfl)).trans (rfl)
        refine g_val (.pointer (some ⟨w.heap.size, 2, none⟩)) hS rfl ?_ rfl
        have hcn := BigFrame.eval_const a'; have hfn := BigFrame.eval_func a'; clear hs hdep; generalize a'.eval = ev at *; go_simp
      · go_light; intro listed a' w' hs hS hun hdep
        have e30 : a'.eval (.tmp 30) = (.pointer (some ⟨w.heap.size, 2, none⟩)) := hs.eval 8 _ 30 rfl (hdep ⟨8, .data⟩ (by simp) rfl) rfl
        exact g_val (.int .i64 qp) hS rfl (op_ld1 (.int .i64 qp) rfl e30 (LA.out.below hS) 2 (by first | rfl | simp) rfl Try.underlying3 rfl) rfl
      · go_light; intro listed a' w' hs hS hun hdep
        have e4 : a'.eval (.tmp 4) = .pointer (some ⟨w.heap.size, 0, none⟩) := (hs.out 4 (by kernel_rfl)).trans (rfl)
        refine g_val (.pointer (some ⟨w.heap.size, 3, none⟩)) hS rfl ?_ rfl
        have hcn := BigFrame.eval_const a'; have hfn := BigFrame.eval_func a'; clear hs hdep; generalize a'.eval = ev at *; go_simp
      · go_light; intro listed a' w' hs hS hun hdep
        have e32 : a'.eval (.tmp 32) = (.pointer (some ⟨w.heap.size, 3, none⟩)) := hs.eval 10 _ 32 rfl (hdep ⟨10, .data⟩ (by simp) rfl) rfl
        exact g_val (.int .u32 qs) hS rfl (op_ld1 (.int .u32 qs) rfl e32 (LA.out.below hS) 3 (by first | rfl | simp) rfl Try.underlying23 rfl) rfl
      · go_light; intro listed a' w' hs hS hun hdep
        have e4 : a'.eval (.tmp 4) = .pointer (some ⟨w.heap.size, 0, none⟩) := (hs.out 4 (by kernel_rfl)).trans (rfl)
        refine g_val (.pointer (some ⟨w.heap.size, 4, none⟩)) hS rfl ?_ rfl
        have hcn := BigFrame.eval_const a'; have hfn := BigFrame.eval_func a'; clear hs hdep; generalize a'.eval = ev at *; go_simp
      · go_light; intro listed a' w' hs hS hun hdep
        have e34 : a'.eval (.tmp 34) = (.pointer (some ⟨w.heap.size, 4, none⟩)) := hs.eval 12 _ 34 rfl (hdep ⟨12, .data⟩ (by simp) rfl) rfl
        exact g_val (.int .u32 qd) hS rfl (op_ld1 (.int .u32 qd) rfl e34 (LA.out.below hS) 4 (by first | rfl | simp) rfl Try.underlying23 rfl) rfl
      · go_light; intro listed a' w' hs hS hun hdep
        have e25 : a'.eval (.tmp 25) = (.agg #[.int .i64 i, .int .i64 lb, .int .u32 sa, .int .i64 sb, .int .u32 da, .int .i64 db, .int .i64 p, .int .i64 tt]) := hs.eval 3 _ 25 rfl (hdep ⟨3, .data⟩ (by simp) rfl) rfl
        have e27 : a'.eval (.tmp 27) = (.int .i64 qi) := hs.eval 5 _ 27 rfl (hdep ⟨5, .data⟩ (by simp) rfl) rfl
        have e29 : a'.eval (.tmp 29) = (.int .i64 ql) := hs.eval 7 _ 29 rfl (hdep ⟨7, .data⟩ (by simp) rfl) rfl
        have e31 : a'.eval (.tmp 31) = (.int .i64 qp) := hs.eval 9 _ 31 rfl (hdep ⟨9, .data⟩ (by simp) rfl) rfl
        have e33 : a'.eval (.tmp 33) = (.int .u32 qs) := hs.eval 11 _ 33 rfl (hdep ⟨11, .data⟩ (by simp) rfl) rfl
        have e35 : a'.eval (.tmp 35) = (.int .u32 qd) := hs.eval 13 _ 35 rfl (hdep ⟨13, .data⟩ (by simp) rfl) rfl
        refine g_call 22 #[.agg #[.int .i64 i, .int .i64 lb, .int .u32 sa, .int .i64 sb, .int .u32 da, .int .i64 db, .int .i64 p, .int .i64 tt], .int .i64 qi, .int .i64 ql, .int .i64 qp, .int .u32 qs, .int .u32 qd] hS rfl ?_ ?_
        · have hcn := BigFrame.eval_const a'; have hfn := BigFrame.eval_func a'; clear hs hdep; generalize a'.eval = ev at *; go_simp
        · exact c_val (C36.out w' hS) rfl
      · intro vs w3 hlen hV hS
        obtain ⟨v0, v1, v2, v3, v4, v5, v6, v7, v8, v9, v10, v11, v12, v13, v14, rfl⟩ := vs_15 vs (hlen.trans rfl)
        have q0 : v0 = .slice (some ⟨b, off, none⟩) l.length cap := hV 0 _ rfl
        have q1 : v1 = .int .i64 k := hV 1 _ rfl
        have q2 : v2 = .pointer (some ⟨b, off + k * 8, none⟩) := hV 2 _ rfl
        have q3 : v3 = .agg #[.int .i64 i, .int .i64 lb, .int .u32 sa, .int .i64 sb, .int .u32 da, .int .i64 db, .int .i64 p, .int .i64 tt] := hV 3 _ rfl
        have q4 : v4 = .pointer (some ⟨w.heap.size, 0, none⟩) := hV 4 _ rfl
        have q5 : v5 = .int .i64 qi := hV 5 _ rfl
        have q6 : v6 = .pointer (some ⟨w.heap.size, 1, none⟩) := hV 6 _ rfl
        have q7 : v7 = .int .i64 ql := hV 7 _ rfl
        have q8 : v8 = .pointer (some ⟨w.heap.size, 2, none⟩) := hV 8 _ rfl
        have q9 : v9 = .int .i64 qp := hV 9 _ rfl
        have q10 : v10 = .pointer (some ⟨w.heap.size, 3, none⟩) := hV 10 _ rfl
        have q11 : v11 = .int .u32 qs := hV 11 _ rfl
        have q12 : v12 = .pointer (some ⟨w.heap.size, 4, none⟩) := hV 12 _ rfl
        have q13 : v13 = .int .u32 qd := hV 13 _ rfl
        have q14 : v14 = .bool m36 := hV 14 _ rfl
        have hbel : Below wr.heap.size wr w3 := hS
        subst q0 q1 q2 q3 q4 q5 q6 q7 q8 q9 q10 q11 q12 q13 q14
        clear hV hS hlen
        simp only [lays, Act.put, List.setIfInBounds_toArray, List.set_cons_zero, List.set_cons_succ, List.drop_succ_cons, List.drop_zero, List.take_succ_cons, List.take_zero]
        have LR3 := Lib.hid (LR.out.below hbel)
        have LA3 := Lib.hid (LA.out.below hbel)
        have hb3 := hb.trans (hbel.mono hb.size)
        have hbw3 := hbw.trans (hbel.mono hbw.size)
        clear hbel hb hbw LR LA C36
        go_wp2
        obtain ⟨n51, hn51⟩ : ∃ x, ((⟨i, lb, sa, sb, da, db, p, tt⟩ : Gu).m ⟨qi, ql, qp, qs, qd⟩) = x := ⟨_, rfl⟩
        replace hn51 := Lib.hid hn51
        have C51 := Lib.hid (fun (w' : World) (hb : Below w3.heap.size w3 w') => show Calls Try.prog 23 #[.agg #[.int .i64 i, .int .i64 lb, .int .u32 sa, .int .i64 sb, .int .u32 da, .int .i64 db, .int .i64 p, .int .i64 tt], .int .i64 qi, .int .i64 ql, .int .i64 qp, .int .u32 qs, .int .u32 qd] w' (fun e w'' => e = .returned (.bool n51) ∧ Below w'.heap.size w' w'') from (by rw [← hn51.out]; exact GMatches_any ⟨i, lb, sa, sb, da, db, p, tt⟩ ⟨qi, ql, qp, qs, qd⟩ w' ⟨Hsa.out, Hda.out⟩ ⟨Hqs.out, Hqd.out⟩))
        obtain ⟨n53, hn53⟩ : ∃ x, (!(n51 == m36)) = x := ⟨_, rfl⟩
        replace hn53 := Lib.hid hn53
        refine region_gen (VG w3.heap.size [.val (.slice (some ⟨b, off, none⟩) l.length cap), .val (.int .i64 k), .val (.pointer (some ⟨b, off + k * 8, none⟩)), .val (.agg #[.int .i64 i, .int .i64 lb, .int .u32 sa, .int .i64 sb, .int .u32 da, .int .i64 db, .int .i64 p, .int .i64 tt]), .val (.pointer (some ⟨w.heap.size, 0, none⟩)), .val (.int .i64 qi), .val (.pointer (some ⟨w.heap.size, 1, none⟩)), .val (.int .i64 ql), .val (.pointer (some ⟨w.heap.size, 2, none⟩)), .val (.int .i64 qp), .val (.pointer (some ⟨w.heap.size, 3, none⟩)), .val (.int .u32 qs), .val (.pointer (some ⟨w.heap.size, 4, none⟩)), .val (.int .u32 qd), .val (.bool n51), .val (.bool m36), .val (.bool n53)]) (BS w3) (by kernel_rfl) (by kernel_rfl) (Below.refl _ _).drew ⟨?_, ?_, ?_, ?_, ?_, ?_, ?_, ?_, ?_, ?_, ?_, ?_, ?_, ?_, ?_, ?_, ?_, trivial⟩ ?_
        · go_light; intro listed a' w' hs hS hun hdep
          have e0 : a'.eval (.tmp 0) = .slice (some ⟨b, off, none⟩) l.length cap := (hs.out 0 (by kernel_rfl)).trans (rfl)
          exact g_val (.slice (some ⟨b, off, none⟩) l.length cap) hS rfl (op_move rfl e0) rfl
        · go_light; intro listed a' w' hs hS hun hdep
          have e9 : a'.eval (.tmp 9) = .int .i64 k := (hs.out 9 (by kernel_rfl)).trans (rfl)
          exact g_val (.int .i64 k) hS rfl (op_move rfl e9) rfl
        · go_light; intro listed a' w' hs hS hun hdep
          have e37 : a'.eval (.tmp 37) = (.slice (some ⟨b, off, none⟩) l.length cap) := hs.eval 0 _ 37 rfl (hdep ⟨0, .data⟩ (by simp) rfl) rfl
          have e38 : a'.eval (.tmp 38) = (.int .i64 k) := hs.eval 1 _ 38 rfl (hdep ⟨1, .data⟩ (by simp) rfl) rfl
          exact g_val (.pointer (some ⟨b, off + k * 8, none⟩)) hS rfl (op_ixa rfl e37 e38 Try.underlying45 (by kernel_rfl) hkl) rfl
        · go_light; intro listed a' w' hs hS hun hdep
          have e39 : a'.eval (.tmp 39) = (.pointer (some ⟨b, off + k * 8, none⟩)) := hs.eval 2 _ 39 rfl (hdep ⟨2, .data⟩ (by simp) rfl) rfl
          exact g_val (.agg #[.int .i64 i, .int .i64 lb, .int .u32 sa, .int .i64 sb, .int .u32 da, .int .i64 db, .int .i64 p, .int .i64 tt]) hS rfl (op_ld [.int .i64 i, .int .i64 lb, .int .u32 sa, .int .i64 sb, .int .u32 da, .int .i64 db, .int .i64 p, .int .i64 tt] rfl e39 (LR3.out.below hS) 0 (by first | rfl | simp) rfl Try.underlying50 rfl (by kernel_rfl)) rfl
        · go_light; intro listed a' w' hs hS hun hdep
          have e4 : a'.eval (.tmp 4) = .pointer (some ⟨w.heap.size, 0, none⟩) := (hs.out 4 (by kernel_rfl)).trans (rfl)
          refine g_val (.pointer (some ⟨w.heap.size, 0, none⟩)) hS rfl ?_ rfl
          have hcn := BigFrame.eval_const a'; have hfn := BigFrame.eval_func a'; clear hs hdep; generalize a'.eval = ev at *; go_simp
        · go_light; intro listed a' w' hs hS hun hdep
          have e41 : a'.eval (.tmp 41) = (.pointer (some ⟨w.heap.size, 0, none⟩)) := hs.eval 4 _ 41 rfl (hdep ⟨4, .data⟩ (by simp) rfl) rfl
          exact g_val (.int .i64 qi) hS rfl (op_ld1 (.int .i64 qi) rfl e41 (LA3.out.below hS) 0 (by first | rfl | simp) rfl Try.underlying3 rfl) rfl
        · go_light; intro listed a' w' hs hS hun hdep
          have e4 : a'.eval (.tmp 4) = .pointer (some ⟨w.heap.size, 0, none⟩) := (hs.out 4 (by kernel_rfl)).trans (rfl)
          refine g_val (.pointer (some ⟨w.heap.size, 1, none⟩)) hS rfl ?_ rfl
          have hcn := BigFrame.eval_const a'; have hfn := BigFrame.eval_func a'; clear hs hdep; generalize a'.eval = ev at *; go_simp
        · go_light; intro listed a' w' hs hS hun hdep
          have e43 : a'.eval (.tmp 43) = (.pointer (some ⟨w.heap.size, 1, none⟩)) := hs.eval 6 _ 43 rfl (hdep ⟨6, .data⟩ (by simp) rfl) rfl
          exact g_val (.int .i64 ql) hS rfl (op_ld1 (.int .i64 ql) rfl e43 (LA3.out.below hS) 1 (by first | rfl | simp) rfl Try.underlying3 rfl) rfl
        · go_light; intro listed a' w' hs hS hun hdep
          have e4 : a'.eval (.tmp 4) = .pointer (some ⟨w.heap.size, 0, none⟩) := (hs.out 4 (by kernel_rfl)).trans (rfl)
          refine g_val (.pointer (some ⟨w.heap.size, 2, none⟩)) hS rfl ?_ rfl
          have hcn := BigFrame.eval_const a'; have hfn := BigFrame.eval_func a'; clear hs hdep; generalize a'.eval = ev at *; go_simp
        · go_light; intro listed a' w' hs hS hun hdep
          have e45 : a'.eval (.tmp 45) = (.pointer (some ⟨w.heap.size, 2, none⟩)) := hs.eval 8 _ 45 rfl (hdep ⟨8, .data⟩ (by simp) rfl) rfl
          exact g_val (.int .i64 qp) hS rfl (op_ld1 (.int .i64 qp) rfl e45 (LA3.out.below hS) 2 (by first | rfl | simp) rfl Try.underlying3 rfl) rfl
        · go_light; intro listed a' w' hs hS hun hdep
          have e4 : a'.eval (.tmp 4) = .pointer (some ⟨w.heap.size, 0, none⟩) := (hs.out 4 (by kernel_rfl)).trans (rfl)
          refine g_val (.pointer (some ⟨w.heap.size, 3, none⟩)) hS rfl ?_ rfl
          have hcn := BigFrame.eval_const a'; have hfn := BigFrame.eval_func a'; clear hs hdep; generalize a'.eval = ev at *; go_simp
        · go_light; intro listed a' w' hs hS hun hdep
          have e47 : a'.eval (.tmp 47) = (.pointer (some ⟨w.heap.size, 3, none⟩)) := hs.eval 10 _ 47 rfl (hdep ⟨10, .data⟩ (by simp) rfl) rfl
          exact g_val (.int .u32 qs) hS rfl (op_ld1 (.int .u32 qs) rfl e47 (LA3.out.below hS) 3 (by first | rfl | simp) rfl Try.underlying23 rfl) rfl
        · go_light; intro listed a' w' hs hS hun hdep
          have e4 : a'.eval (.tmp 4) = .pointer (some ⟨w.heap.size, 0, none⟩) := (hs.out 4 (by kernel_rfl)).trans (rfl)
          refine g_val (.pointer (some ⟨w.heap.size, 4, none⟩)) hS rfl ?_ rfl
          have hcn := BigFrame.eval_const a'; have hfn := BigFrame.eval_func a'; clear hs hdep; generalize a'.eval = ev at *; go_simp
        · go_light; intro listed a' w' hs hS hun hdep
          have e49 : a'.eval (.tmp 49) = (.pointer (some ⟨w.heap.size, 4, none⟩)) := hs.eval 12 _ 49 rfl (hdep ⟨12, .data⟩ (by simp) rfl) rfl
          exact g_val (.int .u32 qd) hS rfl (op_ld1 (.int .u32 qd) rfl e49 (LA3.out.below hS) 4 (by first | rfl | simp) rfl Try.underlying23 rfl) rfl
        · go_light; intro listed a' w' hs hS hun hdep
          have e40 : a'.eval (.tmp 40) = (.agg #[.int .i64 i, .int .i64 lb, .int .u32 sa, .int .i64 sb, .int .u32 da, .int .i64 db, .int .i64 p, .int .i64 tt]) := hs.eval 3 _ 40 rfl (hdep ⟨3, .data⟩ (by simp) rfl) rfl
          have e42 : a'.eval (.tmp 42) = (.int .i64 qi) := hs.eval 5 _ 42 rfl (hdep ⟨5, .data⟩ (by simp) rfl) rfl
          have e44 : a'.eval (.tmp 44) = (.int .i64 ql) := hs.eval 7 _ 44 rfl (hdep ⟨7, .data⟩ (by simp) rfl) rfl
          have e46 : a'.eval (.tmp 46) = (.int .i64 qp) := hs.eval 9 _ 46 rfl (hdep ⟨9, .data⟩ (by simp) rfl) rfl
          have e48 : a'.eval (.tmp 48) = (.int .u32 qs) := hs.eval 11 _ 48 rfl (hdep ⟨11, .data⟩ (by simp) rfl) rfl
          have e50 : a'.eval (.tmp 50) = (.int .u32 qd) := hs.eval 13 _ 50 rfl (hdep ⟨13, .data⟩ (by simp) rfl) rfl
          refine g_call 23 #[.agg #[.int .i64 i, .int .i64 lb, .int .u32 sa, .int .i64 sb, .int .u32 da, .int .i64 db, .int .i64 p, .int .i64 tt], .int .i64 qi, .int .i64 ql, .int .i64 qp, .int .u32 qs, .int .u32 qd] hS rfl ?_ ?_
          · have hcn := BigFrame.eval_const a'; have hfn := BigFrame.eval_func a'; clear hs hdep; generalize a'.eval = ev at *; go_simp
          · exact c_val (C51.out w' hS) rfl
        · go_light; intro listed a' w' hs hS hun hdep
          have e10 : a'.eval (.tmp 10) = .bool m36 := (hs.out 10 (by kernel_rfl)).trans (rfl)
          exact g_val (.bool m36) hS rfl (op_move rfl e10) rfl
        · go_light; intro listed a' w' hs hS hun hdep
          have e51 : a'.eval (.tmp 51) = (.bool n51) := hs.eval 14 _ 51 rfl (hdep ⟨14, .data⟩ (by simp) rfl) rfl
          have e52 : a'.eval (.tmp 52) = (.bool m36) := hs.eval 15 _ 52 rfl (hdep ⟨15, .data⟩ (by simp) rfl) rfl
          exact g_val (.bool n53) hS rfl ((op_neqb rfl e51 e52 Try.underlying4).trans (by rw [hn53.out])) rfl
        · intro vs w4 hlen hV listed hall hS
          obtain ⟨v0, v1, v2, v3, v4, v5, v6, v7, v8, v9, v10, v11, v12, v13, v14, v15, v16, rfl⟩ := vs_17 vs (hlen.trans rfl)
          have q0 : v0 = .slice (some ⟨b, off, none⟩) l.length cap := hV 0 _ rfl
          have q1 : v1 = .int .i64 k := hV 1 _ rfl
          have q2 : v2 = .pointer (some ⟨b, off + k * 8, none⟩) := hV 2 _ rfl
          have q3 : v3 = .agg #[.int .i64 i, .int .i64 lb, .int .u32 sa, .int .i64 sb, .int .u32 da, .int .i64 db, .int .i64 p, .int .i64 tt] := hV 3 _ rfl
          have q4 : v4 = .pointer (some ⟨w.heap.size, 0, none⟩) := hV 4 _ rfl
          have q5 : v5 = .int .i64 qi := hV 5 _ rfl
          have q6 : v6 = .pointer (some ⟨w.heap.size, 1, none⟩) := hV 6 _ rfl
          have q7 : v7 = .int .i64 ql := hV 7 _ rfl
          have q8 : v8 = .pointer (some ⟨w.heap.size, 2, none⟩) := hV 8 _ rfl
          have q9 : v9 = .int .i64 qp := hV 9 _ rfl
          have q10 : v10 = .pointer (some ⟨w.heap.size, 3, none⟩) := hV 10 _ rfl
          have q11 : v11 = .int .u32 qs := hV 11 _ rfl
          have q12 : v12 = .pointer (some ⟨w.heap.size, 4, none⟩) := hV 12 _ rfl
          have q13 : v13 = .int .u32 qd := hV 13 _ rfl
          have q14 : v14 = .bool n51 := hV 14 _ rfl
          have q15 : v15 = .bool m36 := hV 15 _ rfl
          have q16 : v16 = .bool n53 := hV 16 _ rfl
          have hbel : Below w3.heap.size w3 w4 := hS
          subst q0 q1 q2 q3 q4 q5 q6 q7 q8 q9 q10 q11 q12 q13 q14 q15 q16
          clear hV hS hlen hall
          clear listed
          simp only [lays, Act.put, List.setIfInBounds_toArray, List.set_cons_zero, List.set_cons_succ]
          have h53 : n53 = false := by rw [← hn53.out, ← hn51.out, hm36.out]; simp
          have LR4 := Lib.hid (LR3.out.below hbel)
          have hb4 := hb3.trans (hbel.mono hb3.size)
          have hbw4 := hbw3.trans (hbel.mono hbw3.size)
          have h36 := hm36.out
          rw [h36] at HAt2 HAt3
          clear hbel hb3 hbw3 LR3 LA3 hn51 hn53 C51 hm36 h36
          subst h53
          cases m36
          · have HAt4 := Lib.hid (HAt2.out rfl)
            clear HAt2 HAt3
            go_upto_region 12 with fail
            obtain ⟨p63, hp63⟩ : ∃ x, (((⟨i, lb, sa, sb, da, db, p, tt⟩ : Gu).ok mm)) = x := ⟨_, rfl⟩
            replace hp63 := Lib.hid hp63
            have C63 := Lib.hid (fun (w' : World) (hb : Below w4.heap.size w4 w') => show Calls Try.prog 24 #[.int .i64 mm, .agg #[.int .i64 i, .int .i64 lb, .int .u32 sa, .int .i64 sb, .int .u32 da, .int .i64 db, .int .i64 p, .int .i64 tt]] w' (fun e w'' => e = .returned (.bool p63) ∧ Below w'.heap.size w' w'') from (by rw [← hp63.out]; exact rgok_any mm ⟨i, lb, sa, sb, da, db, p, tt⟩ w' Hsa.out Hda.out))
            obtain ⟨p64, hp64⟩ : ∃ x, (rt && p63) = x := ⟨_, rfl⟩
            replace hp64 := Lib.hid hp64
            refine region_seq 9 (VG w4.heap.size [.val (.bool rt), .val (.bool rt), .val (if rt = true then .int .i64 mm else undef), .val (if rt = true then .slice (some ⟨b, off, none⟩) l.length cap else undef), .val (if rt = true then .int .i64 k else undef), .val (if rt = true then .pointer (some ⟨b, off + k * 8, none⟩) else undef), .val (if rt = true then .agg #[.int .i64 i, .int .i64 lb, .int .u32 sa, .int .i64 sb, .int .u32 da, .int .i64 db, .int .i64 p, .int .i64 tt] else undef), .val (if rt = true then .bool p63 else undef), .val (.bool p64)]) (BS w4) (by kernel_rfl) (Below.refl _ _) ⟨?_, ?_, ?_, ?_, ?_, ?_, ?_, ?_, ?_, trivial⟩ ?_
            · go_light; intro listed a' w' hs hS hun hdep
              have n8 := hs.lat 0 9 hun _ rfl .phase (by simp) rfl
              have e8 : a'.eval (.tmp 8) = .bool rt := (hs.yet 8 9 (by kernel_rfl) n8).trans (rfl)
              exact g_val (.bool rt) hS rfl (op_move rfl e8) rfl
            · go_light; intro listed a' w' hs hS hun hdep
              have e56 : a'.eval (.tmp 56) = (.bool rt) := hs.eval 0 _ 56 rfl (hdep ⟨0, .data⟩ (by simp) rfl) rfl
              exact g_val (.bool rt) hS rfl (op_move rfl e56) rfl
            · go_light; intro listed a' w' hs hS hun hdep
              have eg : a'.eval (.tmp 57) = (.bool rt) := hs.eval 1 _ 57 rfl (hdep ⟨1, .guard⟩ (by simp) rfl) rfl
              have e2 : a'.eval (.tmp 2) = .int .i64 mm := (hs.out 2 (by kernel_rfl)).trans (rfl)
              cases rt
              · exact g_not hS (wanted_no rfl rfl rfl eg (by decide)) rfl
              · exact g_val (.int .i64 mm) hS (wanted_yes rfl rfl rfl eg) (op_move rfl e2) rfl
            · go_light; intro listed a' w' hs hS hun hdep
              have eg : a'.eval (.tmp 57) = (.bool rt) := hs.eval 1 _ 57 rfl (hdep ⟨1, .guard⟩ (by simp) rfl) rfl
              have e0 : a'.eval (.tmp 0) = .slice (some ⟨b, off, none⟩) l.length cap := (hs.out 0 (by kernel_rfl)).trans (rfl)
              cases rt
              · exact g_not hS (wanted_no rfl rfl rfl eg (by decide)) rfl
              · exact g_val (.slice (some ⟨b, off, none⟩) l.length cap) hS (wanted_yes rfl rfl rfl eg) (op_move rfl e0) rfl
            · go_light; intro listed a' w' hs hS hun hdep
              have eg : a'.eval (.tmp 57) = (.bool rt) := hs.eval 1 _ 57 rfl (hdep ⟨1, .guard⟩ (by simp) rfl) rfl
              have e9 : a'.eval (.tmp 9) = .int .i64 k := (hs.out 9 (by kernel_rfl)).trans (rfl)
              cases rt
              · exact g_not hS (wanted_no rfl rfl rfl eg (by decide)) rfl
              · exact g_val (.int .i64 k) hS (wanted_yes rfl rfl rfl eg) (op_move rfl e9) rfl
            · go_light; intro listed a' w' hs hS hun hdep
              have eg : a'.eval (.tmp 57) = (.bool rt) := hs.eval 1 _ 57 rfl (hdep ⟨1, .guard⟩ (by simp) rfl) rfl
              have e59 : a'.eval (.tmp 59) = (if rt = true then .slice (some ⟨b, off, none⟩) l.length cap else undef) := hs.eval 3 _ 59 rfl (hdep ⟨3, .data⟩ (by simp) rfl) rfl
              have e60 : a'.eval (.tmp 60) = (if rt = true then .int .i64 k else undef) := hs.eval 4 _ 60 rfl (hdep ⟨4, .data⟩ (by simp) rfl) rfl
              cases rt
              · exact g_not hS (wanted_no rfl rfl rfl eg (by decide)) rfl
              · replace e59 := e59.trans (if_pos rfl)
                replace e60 := e60.trans (if_pos rfl)
                exact g_val (.pointer (some ⟨b, off + k * 8, none⟩)) hS (wanted_yes rfl rfl rfl eg) (op_ixa rfl e59 e60 Try.underlying45 (by kernel_rfl) hkl) rfl
            · go_light; intro listed a' w' hs hS hun hdep
              have eg : a'.eval (.tmp 57) = (.bool rt) := hs.eval 1 _ 57 rfl (hdep ⟨1, .guard⟩ (by simp) rfl) rfl
              have e61 : a'.eval (.tmp 61) = (if rt = true then .pointer (some ⟨b, off + k * 8, none⟩) else undef) := hs.eval 5 _ 61 rfl (hdep ⟨5, .data⟩ (by simp) rfl) rfl
              cases rt
              · exact g_not hS (wanted_no rfl rfl rfl eg (by decide)) rfl
              · replace e61 := e61.trans (if_pos rfl)
                exact g_val (.agg #[.int .i64 i, .int .i64 lb, .int .u32 sa, .int .i64 sb, .int .u32 da, .int .i64 db, .int .i64 p, .int .i64 tt]) hS (wanted_yes rfl rfl rfl eg) (op_ld [.int .i64 i, .int .i64 lb, .int .u32 sa, .int .i64 sb, .int .u32 da, .int .i64 db, .int .i64 p, .int .i64 tt] rfl e61 (LR4.out.below hS) 0 (by first | rfl | simp) rfl Try.underlying50 rfl (by kernel_rfl)) rfl
            · go_light; intro listed a' w' hs hS hun hdep
              have eg : a'.eval (.tmp 57) = (.bool rt) := hs.eval 1 _ 57 rfl (hdep ⟨1, .guard⟩ (by simp) rfl) rfl
              have e58 : a'.eval (.tmp 58) = (if rt = true then .int .i64 mm else undef) := hs.eval 2 _ 58 rfl (hdep ⟨2, .data⟩ (by simp) rfl) rfl
              have e62 : a'.eval (.tmp 62) = (if rt = true then .agg #[.int .i64 i, .int .i64 lb, .int .u32 sa, .int .i64 sb, .int .u32 da, .int .i64 db, .int .i64 p, .int .i64 tt] else undef) := hs.eval 6 _ 62 rfl (hdep ⟨6, .data⟩ (by simp) rfl) rfl
              cases rt
              · exact g_not hS (wanted_no rfl rfl rfl eg (by decide)) rfl
              · replace e58 := e58.trans (if_pos rfl)
                replace e62 := e62.trans (if_pos rfl)
                refine g_call 24 #[.int .i64 mm, .agg #[.int .i64 i, .int .i64 lb, .int .u32 sa, .int .i64 sb, .int .u32 da, .int .i64 db, .int .i64 p, .int .i64 tt]] hS (wanted_yes rfl rfl rfl eg) ?_ ?_
                · have hcn := BigFrame.eval_const a'; have hfn := BigFrame.eval_func a'; clear hs hdep; generalize a'.eval = ev at *; go_simp
                · exact c_val (C63.out w' hS) rfl
            · go_light; intro listed a' w' hs hS hun hdep
              have e57 : a'.eval (.tmp 57) = (.bool rt) := hs.eval 1 _ 57 rfl (hdep ⟨1, .data⟩ (by simp) rfl) rfl
              have e63 : a'.eval (.tmp 63) = (if rt = true then .bool p63 else undef) := hs.eval 7 _ 63 rfl (hdep ⟨7, .data⟩ (by simp) rfl) rfl
              refine g_val (.bool p64) hS rfl ?_ rfl
              cases rt
              · replace e63 := e63.trans (if_neg (by decide))
                exact (op_pick_f rfl e57 (BigFrame.eval_const a' _)).trans (by rw [← hp64.out]; first | rfl | simp)
              · replace e63 := e63.trans (if_pos rfl)
                exact (op_pick_t rfl e57 e63).trans (by rw [← hp64.out]; first | rfl | simp)
            · intro vs w5 hlen hV hS
              obtain ⟨v0, v1, v2, v3, v4, v5, v6, v7, v8, rfl⟩ := vs_9 vs (hlen.trans rfl)
              have q0 : v0 = .bool rt := hV 0 _ rfl
              have q1 : v1 = .bool rt := hV 1 _ rfl
              have q8 : v8 = .bool p64 := hV 8 _ rfl
              have hbel : Below w4.heap.size w4 w5 := hS
              subst q0 q1 q8
              clear hV hS hlen
              simp only [lays, Act.put, List.setIfInBounds_toArray, List.set_cons_zero, List.set_cons_succ, List.drop_succ_cons, List.drop_zero, List.take_succ_cons, List.take_zero]
              have hb5 := hb4.trans (hbel.mono hb4.size)
              have hbw5 := hbw4.trans (hbel.mono hbw4.size)
              have hrr : (rt && (⟨i, lb, sa, sb, da, db, p, tt⟩ : Gu).ok mm) = p64 := by rw [← hp64.out, ← hp63.out]
              rw [hrr] at HRt2
              clear hbel hb4 hbw4 LR4 hp63 hp64 C63 hrr
              go_wp2
              go_roundw
              case rel => exact ⟨k, at_, p64, by omega, by go_num, rfl, rfl, HAt4, HRt2, hb5, hbw5⟩
              case measure => simp [intOf]
          · have HAt4 := Lib.hid (HAt3.out rfl)
            clear HAt2 HAt3
            go_upto_region 12 with fail
            obtain ⟨p63, hp63⟩ : ∃ x, (((⟨i, lb, sa, sb, da, db, p, tt⟩ : Gu).ok mm)) = x := ⟨_, rfl⟩
            replace hp63 := Lib.hid hp63
            have C63 := Lib.hid (fun (w' : World) (hb : Below w4.heap.size w4 w') => show Calls Try.prog 24 #[.int .i64 mm, .agg #[.int .i64 i, .int .i64 lb, .int .u32 sa, .int .i64 sb, .int .u32 da, .int .i64 db, .int .i64 p, .int .i64 tt]] w' (fun e w'' => e = .returned (.bool p63) ∧ Below w'.heap.size w' w'') from (by rw [← hp63.out]; exact rgok_any mm ⟨i, lb, sa, sb, da, db, p, tt⟩ w' Hsa.out Hda.out))
            obtain ⟨p64, hp64⟩ : ∃ x, (rt && p63) = x := ⟨_, rfl⟩
            replace hp64 := Lib.hid hp64
            refine region_seq 9 (VG w4.heap.size [.val (.bool rt), .val (.bool rt), .val (if rt = true then .int .i64 mm else undef), .val (if rt = true then .slice (some ⟨b, off, none⟩) l.length cap else undef), .val (if rt = true then .int .i64 k else undef), .val (if rt = true then .pointer (some ⟨b, off + k * 8, none⟩) else undef), .val (if rt = true then .agg #[.int .i64 i, .int .i64 lb, .int .u32 sa, .int .i64 sb, .int .u32 da, .int .i64 db, .int .i64 p, .int .i64 tt] else undef), .val (if rt = true then .bool p63 else undef), .val (.bool p64)]) (BS w4) (by kernel_rfl) (Below.refl _ _) ⟨?_, ?_, ?_, ?_, ?_, ?_, ?_, ?_, ?_, trivial⟩ ?_
            · go_light; intro listed a' w' hs hS hun hdep
              have n8 := hs.lat 0 9 hun _ rfl .phase (by simp) rfl
              have e8 : a'.eval (.tmp 8) = .bool rt := (hs.yet 8 9 (by kernel_rfl) n8).trans (rfl)
              exact g_val (.bool rt) hS rfl (op_move rfl e8) rfl
            · go_light; intro listed a' w' hs hS hun hdep
              have e56 : a'.eval (.tmp 56) = (.bool rt) := hs.eval 0 _ 56 rfl (hdep ⟨0, .data⟩ (by simp) rfl) rfl
              exact g_val (.bool rt) hS rfl (op_move rfl e56) rfl
            · go_light; intro listed a' w' hs hS hun hdep
              have eg : a'.eval (.tmp 57) = (.bool rt) := hs.eval 1 _ 57 rfl (hdep ⟨1, .guard⟩ (by simp) rfl) rfl
              have e2 : a'.eval (.tmp 2) = .int .i64 mm := (hs.out 2 (by kernel_rfl)).trans (rfl)
              cases rt
              · exact g_not hS (wanted_no rfl rfl rfl eg (by decide)) rfl
              · exact g_val (.int .i64 mm) hS (wanted_yes rfl rfl rfl eg) (op_move rfl e2) rfl
            · go_light; intro listed a' w' hs hS hun hdep
              have eg : a'.eval (.tmp 57) = (.bool rt) := hs.eval 1 _ 57 rfl (hdep ⟨1, .guard⟩ (by simp) rfl) rfl
              have e0 : a'.eval (.tmp 0) = .slice (some ⟨b, off, none⟩) l.length cap := (hs.out 0 (by kernel_rfl)).trans (rfl)
              cases rt
              · exact g_not hS (wanted_no rfl rfl rfl eg (by decide)) rfl
              · exact g_val (.slice (some ⟨b, off, none⟩) l.length cap) hS (wanted_yes rfl rfl rfl eg) (op_move rfl e0) rfl
            · go_light; intro listed a' w' hs hS hun hdep
              have eg : a'.eval (.tmp 57) = (.bool rt) := hs.eval 1 _ 57 rfl (hdep ⟨1, .guard⟩ (by simp) rfl) rfl
              have e9 : a'.eval (.tmp 9) = .int .i64 k := (hs.out 9 (by kernel_rfl)).trans (rfl)
              cases rt
              · exact g_not hS (wanted_no rfl rfl rfl eg (by decide)) rfl
              · exact g_val (.int .i64 k) hS (wanted_yes rfl rfl rfl eg) (op_move rfl e9) rfl
            · go_light; intro listed a' w' hs hS hun hdep
              have eg : a'.eval (.tmp 57) = (.bool rt) := hs.eval 1 _ 57 rfl (hdep ⟨1, .guard⟩ (by simp) rfl) rfl
              have e59 : a'.eval (.tmp 59) = (if rt = true then .slice (some ⟨b, off, none⟩) l.length cap else undef) := hs.eval 3 _ 59 rfl (hdep ⟨3, .data⟩ (by simp) rfl) rfl
              have e60 : a'.eval (.tmp 60) = (if rt = true then .int .i64 k else undef) := hs.eval 4 _ 60 rfl (hdep ⟨4, .data⟩ (by simp) rfl) rfl
              cases rt
              · exact g_not hS (wanted_no rfl rfl rfl eg (by decide)) rfl
              · replace e59 := e59.trans (if_pos rfl)
                replace e60 := e60.trans (if_pos rfl)
                exact g_val (.pointer (some ⟨b, off + k * 8, none⟩)) hS (wanted_yes rfl rfl rfl eg) (op_ixa rfl e59 e60 Try.underlying45 (by kernel_rfl) hkl) rfl
            · go_light; intro listed a' w' hs hS hun hdep
              have eg : a'.eval (.tmp 57) = (.bool rt) := hs.eval 1 _ 57 rfl (hdep ⟨1, .guard⟩ (by simp) rfl) rfl
              have e61 : a'.eval (.tmp 61) = (if rt = true then .pointer (some ⟨b, off + k * 8, none⟩) else undef) := hs.eval 5 _ 61 rfl (hdep ⟨5, .data⟩ (by simp) rfl) rfl
              cases rt
              · exact g_not hS (wanted_no rfl rfl rfl eg (by decide)) rfl
              · replace e61 := e61.trans (if_pos rfl)
                exact g_val (.agg #[.int .i64 i, .int .i64 lb, .int .u32 sa, .int .i64 sb, .int .u32 da, .int .i64 db, .int .i64 p, .int .i64 tt]) hS (wanted_yes rfl rfl rfl eg) (op_ld [.int .i64 i, .int .i64 lb, .int .u32 sa, .int .i64 sb, .int .u32 da, .int .i64 db, .int .i64 p, .int .i64 tt] rfl e61 (LR4.out.below hS) 0 (by first | rfl | simp) rfl Try.underlying50 rfl (by kernel_rfl)) rfl
            · go_light; intro listed a' w' hs hS hun hdep
              have eg : a'.eval (.tmp 57) = (.bool rt) := hs.eval 1 _ 57 rfl (hdep ⟨1, .guard⟩ (by simp) rfl) rfl
              have e58 : a'.eval (.tmp 58) = (if rt = true then .int .i64 mm else undef) := hs.eval 2 _ 58 rfl (hdep ⟨2, .data⟩ (by simp) rfl) rfl
              have e62 : a'.eval (.tmp 62) = (if rt = true then .agg #[.int .i64 i, .int .i64 lb, .int .u32 sa, .int .i64 sb, .int .u32 da, .int .i64 db, .int .i64 p, .int .i64 tt] else undef) := hs.eval 6 _ 62 rfl (hdep ⟨6, .data⟩ (by simp) rfl) rfl
              cases rt
              · exact g_not hS (wanted_no rfl rfl rfl eg (by decide)) rfl
              · replace e58 := e58.trans (if_pos rfl)
                replace e62 := e62.trans (if_pos rfl)
                refine g_call 24 #[.int .i64 mm, .agg #[.int .i64 i, .int .i64 lb, .int .u32 sa, .int .i64 sb, .int .u32 da, .int .i64 db, .int .i64 p, .int .i64 tt]] hS (wanted_yes rfl rfl rfl eg) ?_ ?_
                · have hcn := BigFrame.eval_const a'; have hfn := BigFrame.eval_func a'; clear hs hdep; generalize a'.eval = ev at *; go_simp
                · exact c_val (C63.out w' hS) rfl
            · go_light; intro listed a' w' hs hS hun hdep
              have e57 : a'.eval (.tmp 57) = (.bool rt) := hs.eval 1 _ 57 rfl (hdep ⟨1, .data⟩ (by simp) rfl) rfl
              have e63 : a'.eval (.tmp 63) = (if rt = true then .bool p63 else undef) := hs.eval 7 _ 63 rfl (hdep ⟨7, .data⟩ (by simp) rfl) rfl
              refine g_val (.bool p64) hS rfl ?_ rfl
              cases rt
              · replace e63 := e63.trans (if_neg (by decide))
                exact (op_pick_f rfl e57 (BigFrame.eval_const a' _)).trans (by rw [← hp64.out]; first | rfl | simp)
              · replace e63 := e63.trans (if_pos rfl)
                exact (op_pick_t rfl e57 e63).trans (by rw [← hp64.out]; first | rfl | simp)
            · intro vs w5 hlen hV hS
              obtain ⟨v0, v1, v2, v3, v4, v5, v6, v7, v8, rfl⟩ := vs_9 vs (hlen.trans rfl)
              have q0 : v0 = .bool rt := hV 0 _ rfl
              have q1 : v1 = .bool rt := hV 1 _ rfl
              have q8 : v8 = .bool p64 := hV 8 _ rfl
              have hbel : Below w4.heap.size w4 w5 := hS
              subst q0 q1 q8
              clear hV hS hlen
              simp only [lays, Act.put, List.setIfInBounds_toArray, List.set_cons_zero, List.set_cons_succ, List.drop_succ_cons, List.drop_zero, List.take_succ_cons, List.take_zero]
              have hb5 := hb4.trans (hbel.mono hb4.size)
              have hbw5 := hbw4.trans (hbel.mono hbw4.size)
              have hrr : (rt && (⟨i, lb, sa, sb, da, db, p, tt⟩ : Gu).ok mm) = p64 := by rw [← hp64.out, ← hp63.out]
              rw [hrr] at HRt2
              clear hbel hb4 hbw4 LR4 hp63 hp64 C63 hrr
              go_wp2
              go_roundw
              case rel => exact ⟨k, (k : Int), p64, by omega, by go_num, rfl, rfl, HAt4, HRt2, hb5, hbw5⟩
              case measure => simp [intOf]
#print axioms gto_law
end Go.Proofs.Ytagfcfkkjllfpaa
