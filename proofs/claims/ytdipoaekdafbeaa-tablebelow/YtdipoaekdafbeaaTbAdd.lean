/- A label added to a table that is being made. -/
import Derived.Test.YtdipoaekdafbeaaTbFind
namespace Go.Proofs.Ytdipoaekdafbeaa
open Go.RowKit Go.Maps Go.ChangeMaps
set_option maxRecDepth 100000
set_option linter.unusedVariables false
open T

/-- Each operation's value; and the world by what has come up. -/
def VE (vals : List Value) (i : Nat) (v : Value) (_ : World) : Prop := ∀ x, vals[i]? = some x → v = x
def SE (Wf : Array Bool → World) : Array Bool → Act → World → Prop := fun listed _ w => w = Wf listed
section
variable {P : Program} {l : List Oper} {vals : List Value} {Wf : Array Bool → World} {a a' : Act} {i : Nat} {o : Oper} {listed : Array Bool} {w' : World}
theorem e_val (v : Value) (hS : SE Wf listed a' w') (hw : Region.wanted o (yielded l.toArray a'.tmps) = true) (hr : (execOp a'.eval o).run P w' = .ok (.value v) w') (hV : ∀ x, vals[i]? = some x → v = x) (hW : Wf (listed.setIfInBounds i true) = Wf listed) :
    (Region.wanted o (yielded l.toArray a'.tmps) = true ∧ planUpon P (fun v w'' => VE vals i v w'' ∧ SE Wf (listed.setIfInBounds i true) (a'.put o.dst v) w'' ∧ ∀ j u, VE vals j u w' → VE vals j u w'') ((execOp a'.eval o).run P w')) ∨ (Region.wanted o (yielded l.toArray a'.tmps) = false ∧ VE vals i undef w' ∧ SE Wf (listed.setIfInBounds i true) (a'.put o.dst undef) w') :=
  .inl ⟨hw, by rw [hr]; exact ⟨hV, hS.trans hW.symm, fun _ _ h => h⟩⟩
theorem e_eff (v : Value) (w2 : World) (hw : Region.wanted o (yielded l.toArray a'.tmps) = true) (hr : (execOp a'.eval o).run P w' = .ok (.value v) w2) (hV : ∀ x, vals[i]? = some x → v = x) (hW : Wf (listed.setIfInBounds i true) = w2) :
    (Region.wanted o (yielded l.toArray a'.tmps) = true ∧ planUpon P (fun v w'' => VE vals i v w'' ∧ SE Wf (listed.setIfInBounds i true) (a'.put o.dst v) w'' ∧ ∀ j u, VE vals j u w' → VE vals j u w'') ((execOp a'.eval o).run P w')) ∨ (Region.wanted o (yielded l.toArray a'.tmps) = false ∧ VE vals i undef w' ∧ SE Wf (listed.setIfInBounds i true) (a'.put o.dst undef) w') :=
  .inl ⟨hw, by rw [hr]; exact ⟨hV, hW.symm, fun _ _ h => h⟩⟩
theorem e_call (f : FuncId) (args : Array Value) (v : Value) (hS : SE Wf listed a' w') (hw : Region.wanted o (yielded l.toArray a'.tmps) = true) (hr : (execOp a'.eval o).run P w' = .ok (.enter f args) w') (hc : Calls P f args w' (fun e w'' => e = .returned v ∧ w'' = w')) (hV : ∀ x, vals[i]? = some x → v = x) (hW : Wf (listed.setIfInBounds i true) = Wf listed) :
    (Region.wanted o (yielded l.toArray a'.tmps) = true ∧ planUpon P (fun v w'' => VE vals i v w'' ∧ SE Wf (listed.setIfInBounds i true) (a'.put o.dst v) w'' ∧ ∀ j u, VE vals j u w' → VE vals j u w'') ((execOp a'.eval o).run P w')) ∨ (Region.wanted o (yielded l.toArray a'.tmps) = false ∧ VE vals i undef w' ∧ SE Wf (listed.setIfInBounds i true) (a'.put o.dst undef) w') :=
  .inl ⟨hw, by
    rw [hr]
    exact Calls.mono hc fun e w'' ⟨he, hw⟩ => ⟨v, he, hV, hw.trans (hS.trans hW.symm), fun _ _ h => h⟩⟩
end
theorem run_op_append {P : Program} {o : Oper} {ev : Operand → Value} {w w' : World} {s x : Operand} {t tx : TypeId} {sv xv v : Value} (ho : o.op = Op.call { callee := Callee.builtin Builtin.append, args := #[s, x], argTypes := #[t, tx] }) (hs : ev s = sv) (hx : ev x = xv)
    (hr : (Builtin.append_ #[t, tx] o.type #[sv, xv]).run P w = .ok v w') : (execOp ev o).run P w = .ok (.value v) w' := by
  simp [execOp, ho, resolve, invoke, builtin, hs, hx, hr, Result.andThen]
theorem vs7 (vs : List Value) (h : vs.length = 7) : ∃ v0 v1 v2 v3 v4 v5 v6, vs = [v0, v1, v2, v3, v4, v5, v6] := by
  obtain ⟨v0, r0, rfl, h0⟩ := LbLow.vs_cons vs h
  obtain ⟨v1, r1, rfl, h1⟩ := LbLow.vs_cons r0 h0
  obtain ⟨v2, r2, rfl, h2⟩ := LbLow.vs_cons r1 h1
  obtain ⟨v3, r3, rfl, h3⟩ := LbLow.vs_cons r2 h2
  obtain ⟨v4, r4, rfl, h4⟩ := LbLow.vs_cons r3 h3
  obtain ⟨v5, r5, rfl, h5⟩ := LbLow.vs_cons r4 h4
  obtain ⟨v6, r6, rfl, h6⟩ := LbLow.vs_cons r5 h5
  obtain rfl := List.eq_nil_of_length_eq_zero h6
  exact ⟨v0, v1, v2, v3, v4, v5, v6, rfl⟩
theorem vs10 (vs : List Value) (h : vs.length = 10) : ∃ v0 v1 v2 v3 v4 v5 v6 v7 v8 v9, vs = [v0, v1, v2, v3, v4, v5, v6, v7, v8, v9] := by
  obtain ⟨v0, r0, rfl, h0⟩ := LbLow.vs_cons vs h
  obtain ⟨v1, r1, rfl, h1⟩ := LbLow.vs_cons r0 h0
  obtain ⟨v2, r2, rfl, h2⟩ := LbLow.vs_cons r1 h1
  obtain ⟨v3, r3, rfl, h3⟩ := LbLow.vs_cons r2 h2
  obtain ⟨v4, r4, rfl, h4⟩ := LbLow.vs_cons r3 h3
  obtain ⟨v5, r5, rfl, h5⟩ := LbLow.vs_cons r4 h4
  obtain ⟨v6, r6, rfl, h6⟩ := LbLow.vs_cons r5 h5
  obtain ⟨v7, r7, rfl, h7⟩ := LbLow.vs_cons r6 h6
  obtain ⟨v8, r8, rfl, h8⟩ := LbLow.vs_cons r7 h7
  obtain ⟨v9, r9, rfl, h9⟩ := LbLow.vs_cons r8 h8
  obtain rfl := List.eq_nil_of_length_eq_zero h9
  exact ⟨v0, v1, v2, v3, v4, v5, v6, v7, v8, v9, rfl⟩
/-- Where two things come up one behind the other. -/
def WF3 (W1 W2 W3 : World) (listed : Array Bool) : World := if listed.getD 6 false then (if listed.getD 7 false then W3 else W2) else W1
theorem WF3_ne {W1 W2 W3 : World} {listed : Array Bool} {i : Nat} (h6 : i ≠ 6) (h7 : i ≠ 7) : WF3 W1 W2 W3 (listed.setIfInBounds i true) = WF3 W1 W2 W3 listed := by
  unfold WF3
  rw [getD_set_ne false h6, getD_set_ne false h7]
theorem WF3_all {W1 W2 W3 : World} {Q : World → Prop} (h1 : Q W1) (h2 : Q W2) (h3 : Q W3) (listed : Array Bool) : Q (WF3 W1 W2 W3 listed) := by
  unfold WF3
  split
  · split
    · exact h3
    · exact h2
  · exact h1

set_option maxHeartbeats 8000000 in
theorem add_any (base g : Nat) (ls : Labs) (z : Int) (n : Nat) (w : World) (h : TabB base w g ls) (hl : ∀ p ∈ ls, ok p) (hnd : ls.Nodup) (hlen : ls.length ≤ 16) (hx : ok (z, n)) (hbs : base ≤ w.heap.size) :
    Calls Try.prog 44 #[.pointer (some ⟨g, 0, none⟩), .agg (L.lv z n)] w fun e w' => e = .returned (.int .i64 (addE ls (z, n))) ∧ Below base w w' ∧ (addE ls (z, n) = 0 → TabB base w' g (ls ++ [(z, n)])) := by
  have hl' := Lib.hid hl
  have hnd' := Lib.hid hnd
  have hx' := Lib.hid hx
  clear hl hnd hx
  have hb0 : Below w.heap.size w (w.alloc (.cells (L.lv z n) 29)) := (Below.refl _ w).alloc (Nat.le_refl _) _
  have HT0 := Lib.hid (h.below hb0)
  have HL0 := Lib.hid (LabAt.new w z n)
  have hbw0 : Below base w (w.alloc (.cells (L.lv z n) 29)) := hb0.mono hbs
  have hlr : L.rightL [(z, n)] = D.lr z := by simp [L.rightL, D.lr]
  have HLR := Lib.hid (fun (r : Nat) (w' : World) (h : w'.heap[r]? = some (.cells (labsX [(z, n)]) 29 (0, 0))) => Right_any (some ⟨r, 0, none⟩) 1 [(z, n)] w' (LRow.of_block h) (by simp))
  rw [hlr] at HLR
  clear h hb0 hlr
  go_enter Try.func44, Try.ntmps44
  go_wp2_with (first | (refine load_lab rfl rfl rfl HL0.out ?_) | (refine step_op rfl (run_op_labs [(z, n)] rfl (by simp [Act.eval, Act.put, labV]) rfl (by simp) (by simp)) ?_))
  have hnew : ((w.alloc (.cells (L.lv z n) 29)).alloc (.cells (labsX [(z, n)]) 29)).heap[w.heap.size + 1]? = some (.cells (labsX [(z, n)]) 29 (0, 0)) := by
    have := heap_alloc_new (w.alloc (.cells (L.lv z n) 29)) (.cells (labsX [(z, n)]) 29)
    rw [show (w.alloc (.cells (L.lv z n) 29)).heap.size = w.heap.size + 1 from by simp] at this
    exact this
  have HLR := Lib.hid (HLR.out _ _ hnew)
  clear hnew
  generalize w.alloc (.cells (L.lv z n) 29) = W0 at *
  refine HLR.out.mono ?_
  rintro e w1 ⟨rfl, hb1⟩
  have hb01 : Below W0.heap.size W0 w1 := ((Below.refl _ W0).alloc (Nat.le_refl _) (.cells (labsX [(z, n)]) 29)).trans (hb1.mono (by simp))
  have HT1 := Lib.hid (HT0.out.below hb01)
  have HL1 := Lib.hid (HL0.out.below hb01 HL0.out.lt)
  have hbw1 := hbw0.trans (hb01.mono (Nat.le_trans hbs hbw0.size))
  have hbs1 : base ≤ w1.heap.size := Nat.le_trans hbs hbw1.size
  clear hb1 hb01 HLR HT0 HL0 hbw0
  cases hr : D.lr z
  · have GE : Hid (addE ls (z, n) = 1) := Lib.hid (by unfold addE; rw [if_pos hr])
    go_wp2
    go_ret
    exact ⟨by rw [GE.out]; rfl, hbw1, fun h => by rw [GE.out] at h; omega⟩
  obtain ⟨ao, cap, m, hg, hvl, hmp, hbg, hbm, hnil⟩ := HT1.out
  have hlt := heap_lt hg
  have k0 : w1.cell? ⟨g, 0, none⟩ = some (.slice ao ls.length cap) := (cell_of_row w1 g 0 _ _ (0, 0) hg).trans rfl
  have k1 : w1.cell? ⟨g, 1, none⟩ = some (.map (some m)) := (cell_of_row w1 g 1 _ _ (0, 0) hg).trans rfl
  have HTR := Lib.hid (TabR.mk (ls := ls) hlt k0 k1 hvl.row.1 hmp hnil)
  clear hnil
  clear hg hvl hmp k1
  go_wp2_with fail
  refine (Len_any g ls.length cap ao w1 k0).mono ?_
  rintro e w2 ⟨rfl, hw2⟩
  have hw3 := hw2.symm
  clear hw2
  subst hw3
  by_cases h16 : ls.length = 16
  · have h16' : ((ls.length : Int) == 16) = true := by rw [beq_iff_eq]; omega
    have GE : Hid (addE ls (z, n) = 5) := Lib.hid (by unfold addE; rw [if_neg (by rw [hr]; simp), if_pos h16])
    go_wp2
    go_ret
    exact ⟨by rw [GE.out]; rfl, hbw1, fun h => by rw [GE.out] at h; omega⟩
  have h16' : ((ls.length : Int) == 16) = false := by rw [beq_eq_false_iff_ne]; omega
  clear k0
  go_wp2_with (refine load_lab rfl rfl rfl HL1.out ?_)
  refine (Find_any g m cap ls ao z n w1 HTR.out hl'.out hnd'.out hx'.out).mono ?_
  rintro e w2 ⟨rfl, hb2⟩
  have HT2 := Lib.hid (HT1.out.below hb2)
  have HL2 := Lib.hid (HL1.out.below hb2 HL1.out.lt)
  have hbw2 := hbw1.trans (hb2.mono hbs1)
  have hbs2 : base ≤ w2.heap.size := Nat.le_trans hbs hbw2.size
  have hfi : decide (0 ≤ findI ls (z, n)) = decide ((z, n) ∈ ls) := by
    have hh := tabD_has (z, n) hx'.out ls hl'.out
    by_cases hin : (z, n) ∈ ls
    · obtain ⟨k, hk, he⟩ := List.getElem_of_mem hin
      rw [findI_hit ls (z, n) k hk (fun j hj e => by
        rw [lab_get ls j (by omega), ← he] at e
        exact (List.pairwise_iff_getElem.1 hnd'.out) j k (by omega) hk hj e) (by rw [lab_get ls k hk, he]), decide_eq_true hin, decide_eq_true (by omega)]
    · rw [findI_miss ls (z, n) (fun j hj e => hin (e ▸ lab_mem ls j hj)), decide_eq_false hin]
      rfl
  rw [hfi]
  clear hb2 HT1 HL1 hbw1 hbs1 HTR hfi
  generalize max (findI ls (z, n)) 0 = c
  by_cases hin : (z, n) ∈ ls
  · have GE : Hid (addE ls (z, n) = 7) := Lib.hid (by unfold addE; rw [if_neg (by rw [hr]; simp), if_neg h16, if_pos hin])
    rw [decide_eq_true hin]
    go_wp2
    go_ret
    exact ⟨by rw [GE.out]; rfl, hbw2, fun h => by rw [GE.out] at h; omega⟩
  have GE : Hid (addE ls (z, n) = 0) := Lib.hid (by unfold addE; rw [if_neg (by rw [hr]; simp), if_neg h16, if_neg hin])
  rw [decide_eq_false hin]
  go_wp2
  obtain ⟨ao, cap, m, hg, hvl, hmp, hbg, hbm, _⟩ := HT2.out
  have HG := Lib.hid hg
  have HVL := Lib.hid hvl
  have HMP := Lib.hid hmp
  have k0 : w2.drew.cell? ⟨g, 0, none⟩ = some (.slice ao ls.length cap) := (cell_of_row w2 g 0 _ _ (0, 0) hg).trans rfl
  have k1 : w2.drew.cell? ⟨g, 1, none⟩ = some (.map (some m)) := (cell_of_row w2 g 1 _ _ (0, 0) hg).trans rfl
  have HK1 := Lib.hid k1
  have HK0 := Lib.hid k0
  have HLd := Lib.hid (HL2.out.drewN 1)
  clear hg hvl hmp k0 k1 HT2
  refine region_gen_tail 7 (VE [.pointer (some ⟨g, 0, none⟩), .pointer (some ⟨g, 0, none⟩), .pointer (some ⟨g, 1, none⟩), .map (some m), .agg (L.lv z n), .pointer (some ⟨g, 0, none⟩), .int .i64 (ls.length : Nat)]) (SE fun _ => w2.drew) (by kernel_rfl) (by kernel_rfl) (by kernel_rfl) rfl ⟨?_, ?_, ?_, ?_, ?_, ?_, ?_, trivial⟩ ?_
  · go_light; intro listed a' w' hs hS hun hdep
    have e0 : a'.eval (.tmp 0) = .pointer (some ⟨g, 0, none⟩) := (hs.out 0 (by kernel_rfl)).trans (rfl)
    refine e_val (.pointer (some ⟨g, 0, none⟩)) hS rfl ?_ (fun x hx => by injection hx) rfl
    have hcn := BigFrame.eval_const a'; have hfn := BigFrame.eval_func a'; clear hs hdep; generalize a'.eval = ev at *; go_simp
  · go_light; intro listed a' w' hs hS hun hdep
    have e21 : a'.eval (.tmp 21) = .pointer (some ⟨g, 0, none⟩) := hs.eval 0 _ 21 rfl (hdep ⟨0, .data⟩ (by simp) rfl) rfl _ rfl
    refine e_val (.pointer (some ⟨g, 0, none⟩)) hS rfl ?_ (fun x hx => by injection hx) rfl
    have hcn := BigFrame.eval_const a'; have hfn := BigFrame.eval_func a'; clear hs hdep; generalize a'.eval = ev at *; go_simp
  · go_light; intro listed a' w' hs hS hun hdep
    have e22 : a'.eval (.tmp 22) = .pointer (some ⟨g, 0, none⟩) := hs.eval 1 _ 22 rfl (hdep ⟨1, .data⟩ (by simp) rfl) rfl _ rfl
    refine e_val (.pointer (some ⟨g, 1, none⟩)) hS rfl ?_ (fun x hx => by injection hx) rfl
    have hcn := BigFrame.eval_const a'; have hfn := BigFrame.eval_func a'; clear hs hdep; generalize a'.eval = ev at *; go_simp
  · go_light; intro listed a' w' hs hS hun hdep
    have e23 : a'.eval (.tmp 23) = .pointer (some ⟨g, 1, none⟩) := hs.eval 2 _ 23 rfl (hdep ⟨2, .data⟩ (by simp) rfl) rfl _ rfl
    have kk := HK1.out
    obtain rfl : w' = w2.drew := hS
    refine e_val (.map (some m)) rfl rfl ?_ (fun x hx => by injection hx) rfl
    have hcn := BigFrame.eval_const a'; have hfn := BigFrame.eval_func a'; clear hs hdep; generalize a'.eval = ev at *; go_simp
  · go_light; intro listed a' w' hs hS hun hdep
    have e3 : a'.eval (.tmp 3) = .pointer (some ⟨w.heap.size, 0, none⟩) := (hs.out 3 (by kernel_rfl)).trans (rfl)
    obtain rfl : w' = w2.drew := hS
    exact e_val (.agg (L.lv z n)) rfl rfl (run_op_load_lab rfl e3 HLd.out) (fun x hx => by injection hx) rfl
  · go_light; intro listed a' w' hs hS hun hdep
    have e0 : a'.eval (.tmp 0) = .pointer (some ⟨g, 0, none⟩) := (hs.out 0 (by kernel_rfl)).trans (rfl)
    refine e_val (.pointer (some ⟨g, 0, none⟩)) hS rfl ?_ (fun x hx => by injection hx) rfl
    have hcn := BigFrame.eval_const a'; have hfn := BigFrame.eval_func a'; clear hs hdep; generalize a'.eval = ev at *; go_simp
  · go_light; intro listed a' w' hs hS hun hdep
    have e26 : a'.eval (.tmp 26) = .pointer (some ⟨g, 0, none⟩) := hs.eval 5 _ 26 rfl (hdep ⟨5, .data⟩ (by simp) rfl) rfl _ rfl
    refine e_call 26 #[.pointer (some ⟨g, 0, none⟩)] (.int .i64 (ls.length : Nat)) hS rfl ?_ ?_ (fun x hx => by injection hx) rfl
    · have hcn := BigFrame.eval_const a'; have hfn := BigFrame.eval_func a'; clear hs hdep; generalize a'.eval = ev at *; go_simp
    · obtain rfl : w' = w2.drew := hS
      exact Len_any g ls.length cap ao _ HK0.out
  intro vs w3 hlen hV hS
  obtain ⟨v0, v1, v2, v3, v4, v5, v6, rfl⟩ := vs7 vs (hlen.trans rfl)
  have q0 : v0 = .pointer (some ⟨g, 0, none⟩) := hV 0 _ rfl _ rfl
  have q1 : v1 = .pointer (some ⟨g, 0, none⟩) := hV 1 _ rfl _ rfl
  have q2 : v2 = .pointer (some ⟨g, 1, none⟩) := hV 2 _ rfl _ rfl
  have q3 : v3 = .map (some m) := hV 3 _ rfl _ rfl
  have q4 : v4 = .agg (L.lv z n) := hV 4 _ rfl _ rfl
  have q5 : v5 = .pointer (some ⟨g, 0, none⟩) := hV 5 _ rfl _ rfl
  have q6 : v6 = .int .i64 (ls.length : Nat) := hV 6 _ rfl _ rfl
  obtain rfl : w3 = w2.drew := hS
  subst q0 q1 q2 q3 q4 q5 q6
  clear hV
  simp only [lays, Act.put, List.setIfInBounds_toArray, List.set_cons_zero, List.set_cons_succ, List.drop_succ_cons, List.drop_zero, List.take_succ_cons, List.take_zero]
  have hmd : w2.drew.ownsMap Try.prog 29 (plainElem Try.prog 3) m ls.length (tabD ls) := HMP.out.drew
  have hlm : ls.length < maxLen := by unfold maxLen; omega
  go_wp2_with (at_mapUpdate; refine wpList_mapUpdate_own _ rfl _ _ _ 76 rfl 29 3 keyLab Try.underlying76 _ m ls.length _ rfl hmd hlm _ _ _ rfl rfl (key_of (z, n) hx'.out) _ [] (plainElem_int Try.underlying3 (WalkArith.wf_i64 (by omega))) ?_; intro w3 hown3 hgrow3)
  have hgm : g ≠ m := fun e => by
    obtain ⟨es, ck, he, _⟩ := hmd
    have hg := HG.out
    rw [e] at hg
    have he' : w2.heap[m]? = some (.map es ck) := he
    rw [he'] at hg
    cases hg
  have hLm : w.heap.size ≠ m := fun e => by
    obtain ⟨es, ck, he, _⟩ := hmd
    have hg : w2.heap[w.heap.size]? = _ := HL2.out
    rw [e] at hg
    have he' : w2.heap[m]? = some (.map es ck) := he
    rw [he'] at hg
    cases hg
  have hrow3 : Value.ownBlock (.slice ao ls.length cap) ≠ some m := by
    obtain ⟨es, ck, he, _⟩ := hmd
    exact HVL.out.away (show w2.heap[m]? = some (.map es ck) from he) (fun cur h => by cases h)
  have hg3 : w3.heap[g]? = some (.cells #[.slice ao ls.length cap, .map (some m)] 78 (0, 0)) := (hgrow3.block g (heap_lt HG.out) (fun e => hgm (Option.some.inj e))).trans HG.out
  have hL3 : LabAt w3 w.heap.size z n := (hgrow3.block _ HL2.out.lt (fun e => hLm (Option.some.inj e))).trans HL2.out
  have hV3 : VLab base ao cap ls w3 := World.ownsRow.kept (w := w2.drew) (show VLab base ao cap ls w2.drew from World.ownsRow.drew HVL.out) hgrow3 (.inr hrow3)
  have hbw3 : Below base w w3 := (hbw2.drew).grown hgrow3 (by exact hbs2) (fun j hj => by cases hj; exact hbm)
  have hown4 : w3.ownsMap Try.prog 29 (plainElem Try.prog 3) m (ls.length + 1) (tabD (ls ++ [(z, n)])) := by rw [tabD_snoc]; exact hown3
  have hbs3 : base ≤ w3.heap.size := Nat.le_trans hbs hbw3.size
  have hm3 := hown4.lt
  clear hmd hlm hown3 hgrow3 HG HVL HMP HK0 HK1 HLd HL2 hbw2 hbs2
  -- the append
  have hrb : (w3.drew.alloc (.cells (labsX [(z, n)]) 29)).heap[w3.heap.size]? = some (.cells (labsX [(z, n)]) 29 (0, 0)) := heap_alloc_new w3.drew _
  obtain ⟨ao', cap', W2, hrun, hV4, hg4⟩ := append_labs base ao cap ls [(z, n)] (w3.drew.alloc (.cells (labsX [(z, n)]) 29)) (World.ownsRow.alloc (World.ownsRow.drew hV3) _) (some ⟨w3.heap.size, 0, none⟩) 1 (LRow.of_block hrb) (by simp) 42 (by omega) (by simp) (by simp; exact Nat.le_succ_of_le hbs3)
  have hga : (w3.drew.alloc (.cells (labsX [(z, n)]) 29)).heap[g]? = some (.cells #[.slice ao ls.length cap, .map (some m)] 78 (0, 0)) := (Below.heap_alloc w3.drew _ g (heap_lt hg3)).trans hg3
  have hVa : VLab base ao cap ls (w3.drew.alloc (.cells (labsX [(z, n)]) 29)) := World.ownsRow.alloc (World.ownsRow.drew hV3) _
  have hg2 : W2.heap[g]? = some (.cells #[.slice ao ls.length cap, .map (some m)] 78 (0, 0)) := (hg4.block g (heap_lt hga) (fun e => hVa.away hga (fun cur h => by injection h with _ h2; exact absurd h2 (by decide)) e.symm)).trans hga
  have hLa : LabAt (w3.drew.alloc (.cells (labsX [(z, n)]) 29)) w.heap.size z n := hL3.drewN 1 |>.alloc _
  have hma : (w3.drew.alloc (.cells (labsX [(z, n)]) 29)).ownsMap Try.prog 29 (plainElem Try.prog 3) m (ls.length + 1) (tabD (ls ++ [(z, n)])) := (hown4.drew).alloc _
  have hm2 : W2.ownsMap Try.prog 29 (plainElem Try.prog 3) m (ls.length + 1) (tabD (ls ++ [(z, n)])) := hma.kept hg4 (fun e => by
    obtain ⟨es, ck, he, _⟩ := hma
    exact hVa.away he (fun cur h => by cases h) e.symm)
  have hbw4 : Below base w W2 := ((hbw3.drew).alloc hbs3 _).grown hg4 (by simp; exact Nat.le_succ_of_le hbs3) hVa.own
  have HG0 := Lib.hid (WF3_all (W1 := w3.drew) (W2 := w3.drew.alloc (.cells (labsX [(z, n)]) 29)) (W3 := W2) (Q := fun W => W.cell? ⟨g, 0, none⟩ = some (.slice ao ls.length cap)) ((cell_of_row w3 g 0 _ _ (0, 0) hg3).trans rfl) ((cell_of_row _ g 0 _ _ (0, 0) hga).trans rfl) ((cell_of_row _ g 0 _ _ (0, 0) hg2).trans rfl))
  have HRun := Lib.hid hrun
  have HL3 := Lib.hid hL3
  have HLa := Lib.hid hLa
  have hend0 : (W2.setCell ⟨g, 0, none⟩ (.slice ao' (ls ++ [(z, n)]).length cap')).heap[g]? = some (.cells #[.slice ao' (ls ++ [(z, n)]).length cap', .map (some m)] 78 (0, 0)) := heap_setCell_same W2 g 0 _ _ _ hg2
  have HEnd : Hid (TabB base (W2.setCell ⟨g, 0, none⟩ (.slice ao' (ls ++ [(z, n)]).length cap')) g (ls ++ [(z, n)])) := Lib.hid ⟨ao', cap', m, hend0,
    ownsRow_setCell_other hV4 (fun e => (hV4.away hg2 (fun cur h => by injection h with _ h2; exact absurd h2 (by decide))) e) _, by
      have := World.ownsMap.setCell hm2 (a := ⟨g, 0, none⟩) (fun e => hgm e.symm) (.slice ao' (ls ++ [(z, n)]).length cap')
      simpa using this, hbg, hbm, fun h => by simp at h⟩
  have hbe : Below base w (W2.setCell ⟨g, 0, none⟩ (.slice ao' (ls ++ [(z, n)]).length cap')) := hbw4.setCell hbg _
  have d1 : W2.cell? ⟨g, 0, none⟩ = some (.slice ao ls.length cap) := (cell_of_row W2 g 0 _ _ (0, 0) hg2).trans rfl
  have d2 : W2.frozen? ⟨g, 0, none⟩ = false := frozen_of_row W2 g 0 _ _ hg2
  have hLb := Lib.hid (fun listed => WF3_all (W1 := w3.drew) (W2 := w3.drew.alloc (.cells (labsX [(z, n)]) 29)) (W3 := W2) (Q := fun W => W = w3.drew ∨ W = w3.drew.alloc (.cells (labsX [(z, n)]) 29) ∨ W = W2) (.inl rfl) (.inr (.inl rfl)) (.inr (.inr rfl)) listed)
  clear hrb hga hVa hg2 hma hm2 hbw4 hend0 hV4 hg4 hown4 hV3 hg3 hrun
  clear hLb
  refine region_gen_tail 10 (VE [.pointer (some ⟨g, 0, none⟩), .pointer (some ⟨g, 0, none⟩), .pointer (some ⟨g, 0, none⟩), .pointer (some ⟨g, 0, none⟩), .slice ao ls.length cap, .agg (L.lv z n), .slice (some ⟨w3.heap.size, 0, none⟩) 1 1, .slice ao' (ls ++ [(z, n)]).length cap', .pointer (some ⟨g, 0, none⟩), .pointer (some ⟨g, 0, none⟩)]) (SE (WF3 w3.drew (w3.drew.alloc (.cells (labsX [(z, n)]) 29)) W2)) (by kernel_rfl) (by kernel_rfl) (by kernel_rfl) (by show w3.drew = _; unfold WF3; rw [if_neg (by rw [getD_replicate_false]; simp)]) ⟨?_, ?_, ?_, ?_, ?_, ?_, ?_, ?_, ?_, ?_, trivial⟩ ?_
  · go_light; intro listed a' w' hs hS hun hdep
    have e0 : a'.eval (.tmp 0) = .pointer (some ⟨g, 0, none⟩) := (hs.out 0 (by kernel_rfl)).trans (rfl)
    refine e_val (.pointer (some ⟨g, 0, none⟩)) hS rfl ?_ (fun x hx => by injection hx) (WF3_ne (by decide) (by decide))
    have hcn := BigFrame.eval_const a'; have hfn := BigFrame.eval_func a'; clear hs hdep; generalize a'.eval = ev at *; go_simp
  · go_light; intro listed a' w' hs hS hun hdep
    have e0 : a'.eval (.tmp 0) = .pointer (some ⟨g, 0, none⟩) := (hs.out 0 (by kernel_rfl)).trans (rfl)
    refine e_val (.pointer (some ⟨g, 0, none⟩)) hS rfl ?_ (fun x hx => by injection hx) (WF3_ne (by decide) (by decide))
    have hcn := BigFrame.eval_const a'; have hfn := BigFrame.eval_func a'; clear hs hdep; generalize a'.eval = ev at *; go_simp
  · go_light; intro listed a' w' hs hS hun hdep
    have e29 : a'.eval (.tmp 29) = .pointer (some ⟨g, 0, none⟩) := hs.eval 1 _ 29 rfl (hdep ⟨1, .data⟩ (by simp) rfl) rfl _ rfl
    refine e_val (.pointer (some ⟨g, 0, none⟩)) hS rfl ?_ (fun x hx => by injection hx) (WF3_ne (by decide) (by decide))
    have hcn := BigFrame.eval_const a'; have hfn := BigFrame.eval_func a'; clear hs hdep; generalize a'.eval = ev at *; go_simp
  · go_light; intro listed a' w' hs hS hun hdep
    have e30 : a'.eval (.tmp 30) = .pointer (some ⟨g, 0, none⟩) := hs.eval 2 _ 30 rfl (hdep ⟨2, .data⟩ (by simp) rfl) rfl _ rfl
    refine e_val (.pointer (some ⟨g, 0, none⟩)) hS rfl ?_ (fun x hx => by injection hx) (WF3_ne (by decide) (by decide))
    have hcn := BigFrame.eval_const a'; have hfn := BigFrame.eval_func a'; clear hs hdep; generalize a'.eval = ev at *; go_simp
  · go_light; intro listed a' w' hs hS hun hdep
    have e31 : a'.eval (.tmp 31) = .pointer (some ⟨g, 0, none⟩) := hs.eval 3 _ 31 rfl (hdep ⟨3, .data⟩ (by simp) rfl) rfl _ rfl
    have kk : w'.cell? ⟨g, 0, none⟩ = some (.slice ao ls.length cap) := by rw [show w' = _ from hS]; exact HG0.out listed
    refine e_val (.slice ao ls.length cap) hS rfl ?_ (fun x hx => by injection hx) (WF3_ne (by decide) (by decide))
    have hcn := BigFrame.eval_const a'; have hfn := BigFrame.eval_func a'; clear hs hdep; generalize a'.eval = ev at *; go_simp
  · go_light; intro listed a' w' hs hS hun hdep
    have e3 : a'.eval (.tmp 3) = .pointer (some ⟨w.heap.size, 0, none⟩) := (hs.out 3 (by kernel_rfl)).trans (rfl)
    have h6 : listed.getD 6 false = false := by
      cases h : listed.getD 6 false
      · rfl
      · have := hs.closed 6 _ rfl h ⟨5, .data⟩ (by simp) rfl
        rw [getD_both hun] at this
        cases this
    have hw' : w' = w3.drew := hS.trans (by unfold WF3; rw [h6]; simp)
    exact e_val (.agg (L.lv z n)) hS rfl (run_op_load_lab rfl e3 (show LabAt w' w.heap.size z n by rw [hw']; exact HL3.out.drewN 1)) (fun x hx => by injection hx) (WF3_ne (by decide) (by decide))
  · go_light; intro listed a' w' hs hS hun hdep
    have e33 : a'.eval (.tmp 33) = .agg (L.lv z n) := hs.eval 5 _ 33 rfl (hdep ⟨5, .data⟩ (by simp) rfl) rfl _ rfl
    have h6 := getD_both hun
    have h7 : listed.getD 7 false = false := by
      cases h : listed.getD 7 false
      · rfl
      · have := hs.closed 7 _ rfl h ⟨6, .data⟩ (by simp) rfl
        rw [h6] at this
        cases this
    have s6 : (listed.setIfInBounds 6 true).getD 6 false = true := by simp [hs.size]
    have s7 : (listed.setIfInBounds 6 true).getD 7 false = false := (getD_set_ne false (by decide)).trans h7
    obtain rfl : w' = w3.drew := hS.trans (by unfold WF3; rw [h6]; simp)
    exact e_eff (.slice (some ⟨w3.heap.size, 0, none⟩) 1 1) (w3.drew.alloc (.cells (labsX [(z, n)]) 29)) rfl (run_op_labs [(z, n)] rfl (by simp [e33, labV]) rfl (by simp) (by simp)) (fun x hx => by injection hx) (by unfold WF3; rw [s6, s7]; simp)
  · go_light; intro listed a' w' hs hS hun hdep
    have e32 : a'.eval (.tmp 32) = .slice ao ls.length cap := hs.eval 4 _ 32 rfl (hdep ⟨4, .data⟩ (by simp) rfl) rfl _ rfl
    have e34 : a'.eval (.tmp 34) = .slice (some ⟨w3.heap.size, 0, none⟩) 1 1 := hs.eval 6 _ 34 rfl (hdep ⟨6, .data⟩ (by simp) rfl) rfl _ rfl
    have h7 := getD_both hun
    have h6 : listed.getD 6 false = true := hdep ⟨6, .data⟩ (by simp) rfl
    have s7 : (listed.setIfInBounds 7 true).getD 7 false = true := by simp [hs.size]
    have s6 : (listed.setIfInBounds 7 true).getD 6 false = true := (getD_set_ne false (by decide)).trans h6
    obtain rfl : w' = w3.drew.alloc (.cells (labsX [(z, n)]) 29) := hS.trans (by unfold WF3; rw [h6, h7]; simp)
    exact e_eff (.slice ao' (ls ++ [(z, n)]).length cap') W2 rfl (run_op_append rfl e32 e34 HRun.out) (fun x hx => by injection hx) (by unfold WF3; rw [s6, s7]; simp)
  · go_light; intro listed a' w' hs hS hun hdep
    have e28 : a'.eval (.tmp 28) = .pointer (some ⟨g, 0, none⟩) := hs.eval 0 _ 28 rfl (hdep ⟨0, .data⟩ (by simp) rfl) rfl _ rfl
    refine e_val (.pointer (some ⟨g, 0, none⟩)) hS rfl ?_ (fun x hx => by injection hx) (WF3_ne (by decide) (by decide))
    have hcn := BigFrame.eval_const a'; have hfn := BigFrame.eval_func a'; clear hs hdep; generalize a'.eval = ev at *; go_simp
  · go_light; intro listed a' w' hs hS hun hdep
    have e36 : a'.eval (.tmp 36) = .pointer (some ⟨g, 0, none⟩) := hs.eval 8 _ 36 rfl (hdep ⟨8, .data⟩ (by simp) rfl) rfl _ rfl
    refine e_val (.pointer (some ⟨g, 0, none⟩)) hS rfl ?_ (fun x hx => by injection hx) (WF3_ne (by decide) (by decide))
    have hcn := BigFrame.eval_const a'; have hfn := BigFrame.eval_func a'; clear hs hdep; generalize a'.eval = ev at *; go_simp
  intro vs w4 hlen' hV hS
  obtain ⟨v0, v1, v2, v3, v4, v5, v6, v7, v8, v9, rfl⟩ := vs10 vs (hlen'.trans rfl)
  have q0 : v0 = .pointer (some ⟨g, 0, none⟩) := hV 0 _ rfl _ rfl
  have q1 : v1 = .pointer (some ⟨g, 0, none⟩) := hV 1 _ rfl _ rfl
  have q2 : v2 = .pointer (some ⟨g, 0, none⟩) := hV 2 _ rfl _ rfl
  have q3 : v3 = .pointer (some ⟨g, 0, none⟩) := hV 3 _ rfl _ rfl
  have q4 : v4 = .slice ao ls.length cap := hV 4 _ rfl _ rfl
  have q5 : v5 = .agg (L.lv z n) := hV 5 _ rfl _ rfl
  have q6 : v6 = .slice (some ⟨w3.heap.size, 0, none⟩) 1 1 := hV 6 _ rfl _ rfl
  have q7 : v7 = .slice ao' (ls ++ [(z, n)]).length cap' := hV 7 _ rfl _ rfl
  have q8 : v8 = .pointer (some ⟨g, 0, none⟩) := hV 8 _ rfl _ rfl
  have q9 : v9 = .pointer (some ⟨g, 0, none⟩) := hV 9 _ rfl _ rfl
  obtain rfl : w4 = W2 := hS
  subst q0 q1 q2 q3 q4 q5 q6 q7 q8 q9
  clear hV
  simp only [lays, Act.put, List.setIfInBounds_toArray, List.set_cons_zero, List.set_cons_succ, List.drop_succ_cons, List.drop_zero, List.take_succ_cons, List.take_zero]
  have hln : (ls ++ [(z, n)]).length = ls.length + 1 := by simp
  rw [hln] at HEnd hbe
  clear hln
  go_wp2
  go_ret
  exact ⟨by rw [GE.out]; rfl, hbe, fun _ => HEnd.out⟩
#print axioms add_any
end Go.Proofs.Ytdipoaekdafbeaa
