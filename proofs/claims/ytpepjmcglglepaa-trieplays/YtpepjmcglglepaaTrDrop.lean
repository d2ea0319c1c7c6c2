/- The walk of what lets a route go. -/
import Derived.Test.YtpepjmcglglepaaTrAdd2
import Derived.Test.YtpepjmcglglepaaQTail
import Derived.Deep.Light
import Derived.Deep.RegionLaw
import Derived.Deep.RegionLawGrows
namespace Go.Proofs.Ytpepjmcglglepaa
open Go.RowKit
set_option maxRecDepth 100000
set_option linter.unusedVariables false
open R

/-- Each operation's value; and the world by what has come up. -/
def VE (vals : List Value) (i : Nat) (v : Value) (_ : World) : Prop := ∀ x, vals[i]? = some x → v = x
def SE (Wf : Array Bool → World) : Array Bool → Act → World → Prop := fun listed _ w => w = Wf listed
section
variable {P : Program} {l : List Oper} {vals : List Value} {Wf : Array Bool → World} {a a' : Act} {i : Nat} {o : Oper} {listed : Array Bool} {w' : World}
theorem e_val (v : Value) (hS : SE Wf listed a' w') (hw : Region.wanted o (yielded l.toArray a'.tmps) = true) (hr : (execOp a'.eval o).run P w' = .ok (.value v) w') (hV : ∀ x, vals[i]? = some x → v = x) (hW : Wf (listed.setIfInBounds i true) = Wf listed) :
    (Region.wanted o (yielded l.toArray a'.tmps) = true ∧ planUpon P (fun v w'' => VE vals i v w'' ∧ SE Wf (listed.setIfInBounds i true) (a'.put o.dst v) w'' ∧ ∀ j u, VE vals j u w' → VE vals j u w'') ((execOp a'.eval o).run P w')) ∨ (Region.wanted o (yielded l.toArray a'.tmps) = false ∧ VE vals i undef w' ∧ SE Wf (listed.setIfInBounds i true) (a'.put o.dst undef) w') :=
  .inl ⟨hw, by rw [hr]; exact ⟨hV, hS.trans hW.symm, fun _ _ h => h⟩⟩
theorem e_eff (v : Value) (w2 : World) (hw : Region.wanted o (yielded l.toArray a'.tmps) = true) (hr : (execOp a'.eval o).run P w' = .ok (.value v) w2) (hV : ∀ x, vals[i]? = some x → v = x) (hW : Wf (listed.setIfInBounds i true) = w2) :
    (Region.wanted o (yielded l.toArray a'.tmps) = true ∧ planUpon P (fun v w'' => VE vals i v w'' ∧ SE Wf (listed.setIfInBounds i true) (a'.put o.dst v) w'' ∧ ∀ j u, VE vals j u w' → VE vals j u w'') ((execOp a'.eval o).run P w')) ∨ (Region.wanted o (yielded l.toArray a'.tmps) = false ∧ VE vals i undef w' ∧ SE Wf (listed.setIfInBounds i true) (a'.put o.dst undef) w') :=
  .inl ⟨hw, by rw [hr]; exact ⟨hV, hW.symm, fun _ _ h => h⟩⟩
theorem e_call (f : FuncId) (args : Array Value) (v : Value) (hS : SE Wf listed a' w') (hw : Region.wanted o (yielded l.toArray a'.tmps) = true) (hr : (execOp a'.eval o).run P w' = .ok (.enter f args) w') (hc : Calls P f args w' (fun e w'' => e = .returned v ∧ w'' = w')) (hV : ∀ x, vals[i]? = some x → v = x) (hW : Wf (listed.setIfInBounds i true) = Wf listed) :
    (Region.wanted o (yielded l.toArray a'.tmps) = true ∧ planUpon P (fun v w'' => VE vals i v w'' ∧ SE Wf (listed.setIfInBounds i true) (a'.put o.dst v) w'' ∧ ∀ j u, VE vals j u w' → VE vals j u w'') ((execOp a'.eval o).run P w')) ∨ (Region.wanted o (yielded l.toArray a'.tmps) = false ∧ VE vals i undef w' ∧ SE Wf (listed.setIfInBounds i true) (a'.put o.dst undef) w') :=
  .inl ⟨hw, by
    rw [hr]
    exact Calls.mono hc fun e w'' ⟨he, hw⟩ => ⟨v, he, hV, hw.trans (hS.trans hW.symm), fun _ _ h => h⟩⟩
end
theorem run_op_append {P : Program} {o : Oper} {ev : Operand → Value} {w w' : World} {s x : Operand} {t tx : TypeId} {sv xv v : Value} (ho : o.op = Op.call { callee := Callee.builtin Builtin.append, args := #[s, x], argTypes := #[t, tx] }) (hs : ev s = sv) (hx : ev x = xv)
    (hr : (Builtin.append_ #[t, tx] o.type #[sv, xv]).run P w = .ok v w') : (execOp ev o).run P w = .ok (.value v) w' := by
  simp [execOp, ho, resolve, invoke, builtin, hs, hx, hr, Result.andThen]
theorem vs_17 (vs : List Value) (h : vs.length = 17) : ∃ v0 v1 v2 v3 v4 v5 v6 v7 v8 v9 v10 v11 v12 v13 v14 v15 v16, vs = [v0, v1, v2, v3, v4, v5, v6, v7, v8, v9, v10, v11, v12, v13, v14, v15, v16] := by
  obtain ⟨v0, r0, rfl, h0⟩ := vs_cons vs h
  obtain ⟨v1, r1, rfl, h1⟩ := vs_cons r0 h0
  obtain ⟨v2, r2, rfl, h2⟩ := vs_cons r1 h1
  obtain ⟨v3, r3, rfl, h3⟩ := vs_cons r2 h2
  obtain ⟨v4, r4, rfl, h4⟩ := vs_cons r3 h3
  obtain ⟨v5, r5, rfl, h5⟩ := vs_cons r4 h4
  obtain ⟨v6, r6, rfl, h6⟩ := vs_cons r5 h5
  obtain ⟨v7, r7, rfl, h7⟩ := vs_cons r6 h6
  obtain ⟨v8, r8, rfl, h8⟩ := vs_cons r7 h7
  obtain ⟨v9, r9, rfl, h9⟩ := vs_cons r8 h8
  obtain ⟨v10, r10, rfl, h10⟩ := vs_cons r9 h9
  obtain ⟨v11, r11, rfl, h11⟩ := vs_cons r10 h10
  obtain ⟨v12, r12, rfl, h12⟩ := vs_cons r11 h11
  obtain ⟨v13, r13, rfl, h13⟩ := vs_cons r12 h12
  obtain ⟨v14, r14, rfl, h14⟩ := vs_cons r13 h13
  obtain ⟨v15, r15, rfl, h15⟩ := vs_cons r14 h14
  obtain ⟨v16, r16, rfl, h16⟩ := vs_cons r15 h15
  obtain rfl := List.eq_nil_of_length_eq_zero h16
  exact ⟨v0, v1, v2, v3, v4, v5, v6, v7, v8, v9, v10, v11, v12, v13, v14, v15, v16, rfl⟩
/-- Where two things come up one behind the other. -/
def WF3g (p q : Nat) (W1 W2 W3 : World) (listed : Array Bool) : World := if listed.getD p false then (if listed.getD q false then W3 else W2) else W1
theorem WF3g_ne {p q : Nat} {W1 W2 W3 : World} {listed : Array Bool} {i : Nat} (h6 : i ≠ p) (h7 : i ≠ q) : WF3g p q W1 W2 W3 (listed.setIfInBounds i true) = WF3g p q W1 W2 W3 listed := by
  unfold WF3g
  rw [getD_set_ne false h6, getD_set_ne false h7]
theorem WF3g_all {p q : Nat} {W1 W2 W3 : World} {Q : World → Prop} (h1 : Q W1) (h2 : Q W2) (h3 : Q W3) (listed : Array Bool) : Q (WF3g p q W1 W2 W3 listed) := by
  unfold WF3g
  split
  · split
    · exact h3
    · exact h2
  · exact h1

theorem step_append_run {P : Program} {ops : Array Oper} {o : Oper} {a : Act} {w : World} {K : Act → World → Prop} {Q : Exit → Act → World → Prop} {E : Prop}
    (hg : o.guard = none) (s x : Operand) (t tx : TypeId) (hop : o.op = Op.call { callee := Callee.builtin Builtin.append, args := #[s, x], argTypes := #[t, tx] })
    (sv xv : Value) (hs : a.eval s = sv) (hx : a.eval x = xv) (v' : Value) (w' : World) (hrun : (Builtin.append_ #[t, tx] o.type #[sv, xv]).run P w = .ok v' w') (hK : K (a.put o.dst v') w') :
    if Region.wanted o (yielded ops a.tmps) = true then Oper.wp P o a w K Q else E := by
  have hw : Region.wanted o (yielded ops a.tmps) = true := by simp [Region.wanted, hg]
  rw [if_pos hw]
  unfold Oper.wp
  simp [execOp, hop, resolve, invoke, builtin, hs, hx, hrun, Result.andThen]
  exact hK

theorem append_free (X : Nat → Prop) (t : Nat) (st : St) (i : Nat) (w : World) (h : TreeAt X w t st) (hl : st.free.length ≤ 900000) {af : Option Addr} {n cf : Nat} (hk : w.cell? ⟨t, 1, none⟩ = some (.slice af n cf)) :
    ∃ ao' cap' w3, (Builtin.append_ #[51, 51] 51 #[.slice af n cf, .slice (some ⟨w.heap.size, 0, none⟩) 1 1]).run Try.prog (w.alloc (.cells #[.int .i64 i] 3)) = .ok (.slice ao' (n + 1) cap') w3 ∧
      (∀ b o v, w.cell? ⟨b, o, none⟩ = some v → ¬ X b → w3.cell? ⟨b, o, none⟩ = some v) ∧ w3.cell? ⟨t, 1, none⟩ = some (.slice af n cf) ∧ w3.frozen? ⟨t, 1, none⟩ = false ∧ w.heap.size < w3.heap.size ∧
      TreeAt (Up X w (w3.setCell ⟨t, 1, none⟩ (.slice ao' (n + 1) cap'))) (w3.setCell ⟨t, 1, none⟩ (.slice ao' (n + 1) cap')) t { st with free := st.free ++ [i] } ∧ Ch X w (w3.setCell ⟨t, 1, none⟩ (.slice ao' (n + 1) cap')) := by
  obtain ⟨an, cn, af', cf', h1, h2, h3, h4, h5, h6⟩ := h
  have ht := heap_lt h1
  obtain ⟨c0, c1, c2, hfz⟩ := tree_cells h1
  rw [hk] at c1
  obtain ⟨rfl, rfl, rfl⟩ : af = af' ∧ n = st.free.length ∧ cf = cf' := by simpa using c1
  obtain ⟨ao', cap', w3, hrun, hown3, hg3, hne3⟩ := Own.app1 3 51 _ 1 8 Try.underlying51 Try.info_int rfl (by omega) 0 af cf st.free.length (natsX st.free) (w.alloc (.cells #[.int .i64 i] 3)) (World.ownsRow.alloc h3 _) [.int .i64 i] rfl (by intro u hu; obtain rfl := List.mem_singleton.1 hu; rfl) w.heap.size (cells_new w [.int .i64 i] 3) 51 (by omega) (Nat.zero_le _)
  have hc3 : Ch X w w3 := (Ch.alloc w (.cells #[.int .i64 i] 3)).trans (Ch.grown (X := X) hg3 fun k hk => h6 k hk) fun _ hk _ => hk
  have ht3 : w3.heap[t]? = some (.cells #[.slice an st.nodes.length cn, .slice af st.free.length cf, .int .i64 st.count] 53 (0, 0)) :=
    (hg3.block t (by simp; omega) (fun e => h3.away h1 (by intro cur h; cases h) e.symm)).trans ((Below.heap_alloc _ _ _ ht).trans h1)
  obtain ⟨d0, d1, d2, hfz3⟩ := tree_cells ht3
  have hcs := Ch.set (X := fun k => k = t) w3 t 1 (.slice ao' (st.free.length + 1) cap') rfl
  have hsz : w.heap.size < w3.heap.size := by have := hg3.size; simp at this; omega
  refine ⟨ao', cap', w3, hrun, fun b o v hv hb => hc3.cell hv hb, d1, hfz3 1, hsz, ⟨an, cn, ao', cap', ?_, ?_, ?_, .inl h4, fun k hk => .inl (h5 k hk), fun k hk => ?_⟩, hc3.trans (Ch.set (X := X) w3 t 1 _ h4) fun _ hk _ => hk⟩
  · rw [set_row ht3]
    simp
  · have h2' : Own 0 59 6 an cn st.nodes.length (nodesX st.nodes) w3 := by
      refine Ch.own (Ch.grown (X := fun k => Value.ownBlock (.slice af st.free.length cf) = some k) hg3 fun k hk => hk) (World.ownsRow.alloc h2 _) fun g hg e => ?_
      obtain ⟨cur, hcur⟩ := h3.isE g e
      exact h2.away hcur (by intro c h; cases h) hg
    exact hcs.own h2' fun g hg e => by
      subst e
      exact h2'.away ht3 (by intro cur h; cases h) hg
  · have := hcs.own hown3 fun g hg e => by
      subst e
      exact hown3.away ht3 (by intro cur h; cases h) hg
    show Own 0 3 1 ao' cap' (st.free ++ [i]).length (natsX (st.free ++ [i])) _
    rw [show (st.free ++ [i]).length = st.free.length + 1 by simp, natsX_app]
    exact this
  · have hk' : Value.ownBlock (.slice ao' (st.free.length + 1) cap') = some k := by
      have e : (st.free ++ [i]).length = st.free.length + 1 := by simp
      simp only [e] at hk
      exact hk
    rcases hne3 k hk' with e | e
    · exact .inl (h6 k e)
    · obtain ⟨cur, hcur⟩ := hown3.isE k hk'
      have := heap_lt hcur
      exact .inr ⟨by simp at e; omega, by simp [World.setCell]; exact this⟩

/-- What the loop that lets nodes go keeps. -/
structure Cutt (X : Nat → Prop) (ws w : World) (t : Nat) (st : St) (rs : List Rt) (a j : Nat) (ps : List Nat) : Prop where
  ch : Ch X ws w
  rep : ∃ st' pl, TreeAt (Up X ws w) w t st' ∧ Rep (less st') rs pl ∧ Full pl rs a j ∧ (∀ i, i ≤ j → pl i (hi a i) = some (ps.getD i 0)) ∧ st'.nodes.length = st.nodes.length ∧ st'.count = st.count

set_option maxHeartbeats 4000000 in
theorem Drop_ok (X : Nat → Prop) (g : Nat) (st : St) (rs rs' : List Rt) (x : Rt) (w : World) (hEq : ∀ (N : Nd) (w : World), (binOp .eql 59 (.agg #[.int .i64 N.c0, .int .i64 N.c1, .bool N.has, .int .u32 N.r.a, .int .i64 N.r.b, .int .i64 N.r.o]) (.agg #[.int .i64 0, .int .i64 0, .bool false, .int .u32 0, .int .i64 0, .int .i64 0])).run Try.prog w = .ok (.bool (decide (N = zN))) w)
    (h : TrieAt X w g st) (hX : ∀ k, X k → k < w.heap.size) (hI : Inv st rs) (hx : x ∈ rs) (hm : ∀ r, r ∈ rs' ↔ r ∈ rs ∧ r ≠ x) (hnd : rs'.Nodup) (hln : rs'.length + 1 = rs.length) (hc : rs.length ≤ 256) (hl : st.nodes.length ≤ 800000) :
    Calls Try.prog 10 #[.pointer (some ⟨g, 0, none⟩), .agg #[.int .u32 x.a, .int .i64 x.b]] w fun e w' => e = .returned (.int .i64 0) ∧ Ch X w w' ∧ ∃ st', TrieAt (Up X w w') w' g st' ∧ Inv st' rs' ∧ st'.nodes.length ≤ st.nodes.length := by
  obtain ⟨a, b, o⟩ := x
  obtain ⟨pl, hR, hfull⟩ := hI
  obtain ⟨hr, ha⟩ := hR.right _ hx
  obtain ⟨n, rfl⟩ : ∃ n : Nat, b = n := ⟨b.toNat, by have := right_bits hr; dsimp only at this; omega⟩
  dsimp only at hr ha ⊢
  have hn : n ≤ 32 := by have := right_bits hr; omega
  have hb0 : Below w.heap.size w (w.alloc (.cells #[.int .u32 a, .int .i64 n] 29)) := (Below.refl _ w).alloc (Nat.le_refl _) _
  have HT := Lib.hid (h.below hb0)
  obtain ⟨t, k0, _, ht⟩ := HT.out.ptr
  have HR := Lib.hid hR
  have Hr := Lib.hid hr
  have Ha := Lib.hid ha
  have HB : Hid ((w.alloc (.cells #[.int .u32 a, .int .i64 n] 29)).heap[w.heap.size]? = some (.cells #[.int .u32 a, .int .i64 n] 29 (0, 0))) := Lib.hid (heap_alloc_new w _)
  have HX := Lib.hid hX
  have HFull := Lib.hid hfull
  have HEq := Lib.hid hEq
  have Hx := Lib.hid hx
  have Hm := Lib.hid hm
  have Hnd := Lib.hid hnd
  have Hln := Lib.hid hln
  have HX0 : Hid (X g) := Lib.hid (by obtain ⟨_, _, e, _⟩ := h; exact e)
  clear h hR hr ha hX hfull ht hEq hx hm hnd hln
  go_enter Try.func10, Try.ntmps10
  go_wp2_with fail
  refine (made_any g t _ k0).mono ?_
  rintro e w1 ⟨rfl, rfl⟩
  go_wp2_with fail
  refine (right_any a n _ Ha.out).mono ?_
  rintro e w1 ⟨rfl, hb1⟩
  rw [Hr.out]
  have HT1 := Lib.hid (HT.out.below hb1)
  have HB1 := Lib.hid ((hb1.block _ (heap_lt HB.out)).trans HB.out)
  have p0 : w1.cell? ⟨w.heap.size, 0, none⟩ = some (.int .u32 a) := (cell_of_row w1 _ 0 _ _ (0, 0) HB1.out).trans rfl
  have p1 : w1.cell? ⟨w.heap.size, 1, none⟩ = some (.int .i64 n) := (cell_of_row w1 _ 1 _ _ (0, 0) HB1.out).trans rfl
  have hbw1 : Below w.heap.size w w1 := hb0.trans (hb1.mono hb0.size)
  clear HT HB k0 hb1 hb0
  go_wp2_with fail
  refine (Get_any X g st rs pl a n w1 HT1.out HR.out Hr.out Ha.out (by omega)).mono ?_
  rintro e w2 ⟨⟨ra, rb, ro⟩, ok, rfl, hget, hb2⟩
  have hok : ok = true := by
    cases ok
    · exact absurd ⟨rfl, rfl⟩ ((hget.no rfl).2 _ Hx.out)
    · rfl
  subst hok
  have HT2 := Lib.hid (HT1.out.below hb2)
  have HB2 := Lib.hid ((hb2.block _ (heap_lt HB1.out)).trans HB1.out)
  have hbw2 : Below w.heap.size w w2 := hbw1.trans (hb2.mono hbw1.size)
  clear HT1 HB1 p0 p1 hb2 hget hbw1
  have hb3 : Below w2.heap.size w2 (w2.alloc (.cells #[.int .u32 ra, .int .i64 rb, .int .i64 ro] 31)) := (Below.refl _ _).alloc (Nat.le_refl _) _
  have HT3 := Lib.hid (HT2.out.below hb3)
  have HB3 := Lib.hid ((hb3.block _ (heap_lt HB2.out)).trans HB2.out)
  have hbw3 := hbw2.trans (hb3.mono hbw2.size)
  unfold Rt.agg
  dsimp only
  go_upto_region 6 with fail
  clear HT2 HB2 hb3 hbw2
  generalize w2.alloc (.cells #[.int .u32 ra, .int .i64 rb, .int .i64 ro] 31) = w3 at *
  obtain ⟨t3, hblk3, _, ht3⟩ := HT3.out
  have k3 : w3.cell? ⟨g, 0, none⟩ = some (.pointer (some ⟨t3, 0, none⟩)) := (cell_of_row w3 g 0 _ _ (0, 0) hblk3).trans rfl
  have HBlk3 := Lib.hid hblk3
  have HTr3 := Lib.hid ht3
  have p0 : w3.cell? ⟨w.heap.size, 0, none⟩ = some (.int .u32 a) := (cell_of_row w3 _ 0 _ _ (0, 0) HB3.out).trans rfl
  have p1 : w3.cell? ⟨w.heap.size, 1, none⟩ = some (.int .i64 n) := (cell_of_row w3 _ 1 _ _ (0, 0) HB3.out).trans rfl
  clear ht3 HT3 hblk3
  go_still_tail 5, (by kernel_rfl)
  change wpList _ _ _ _ _ w3.drew
  have HTr4 : Hid (TreeAt (fun k => X k ∧ k ≠ g) w3.drew t3 st) := HTr3
  have HB4 : Hid (w3.drew.heap[w.heap.size]? = some (.cells #[.int .u32 a, .int .i64 n] 29 (0, 0))) := HB3
  have k4 : w3.drew.cell? ⟨g, 0, none⟩ = some (.pointer (some ⟨t3, 0, none⟩)) := k3
  have hbw4 := hbw3.drew
  have HBlk4 : Hid (w3.drew.heap[g]? = some (.cells #[.pointer (some ⟨t3, 0, none⟩)] 55 (0, 0))) := HBlk3
  clear HBlk3 HTr3 HB3 k3 hbw3 p0 p1
  generalize w3.drew = w4 at *
  go_wp2_with fail
  refine (path_any _ t3 st rs pl a n w4 HTr4.out HR.out hn Ha.out (by omega)).mono ?_
  rintro e w5 ⟨ao, cap, ps, rfl, hrow, hpath, hb5⟩
  have HTr5 := Lib.hid (HTr4.out.below hb5)
  have HB5 := Lib.hid ((hb5.block _ (heap_lt HB4.out)).trans HB4.out)
  have k5 := cell_below hb5 k4
  have hbw5 := hbw4.trans (hb5.mono hbw4.size)
  have Hws := Lib.hid hbw4.size
  have HP := Lib.hid hpath
  have HBlk5 := Lib.hid ((hb5.block g (heap_lt HBlk4.out)).trans HBlk4.out)
  obtain ⟨bp, rfl, hbp0, hbp, hrow⟩ := hrow
  clear HBlk4 HTr4 HB4 k4 hbw4 hb5 hpath
  have p0 : w5.cell? ⟨w.heap.size, 0, none⟩ = some (.int .u32 a) := (cell_of_row w5 _ 0 _ _ (0, 0) HB5.out).trans rfl
  have p1 : w5.cell? ⟨w.heap.size, 1, none⟩ = some (.int .i64 n) := (cell_of_row w5 _ 1 _ _ (0, 0) HB5.out).trans rfl
  -- the whole path is there
  obtain ⟨i0, hk1, hk2, hk3⟩ := HR.out.keys _ Hx.out
  dsimp only at hk1
  rw [show ((n : Int)).toNat = n from rfl] at hk1
  have hfullp : ps.length = n + 1 := by
    by_cases hle : ps.length ≤ n
    · have := HP.out.none_from HR.out hn n hle (Nat.le_refl _)
      rw [hk1] at this
      cases this
    · have := HP.out.le; omega
  have hi0 : ps.getD n 0 = i0 := by
    have := HP.out.at' n (by omega)
    rw [hk1] at this
    exact (Option.some.inj this).symm
  have q0 := hrow n (by omega)
  have HRow := Lib.hid hrow
  have HAll : Hid (∀ i, i ≤ n → pl i (hi a i) = some (ps.getD i 0)) := Lib.hid fun i hi => HP.out.at' i (by omega)
  have hil := HR.out.lt _ _ _ hk1
  obtain ⟨bn, cn, af, cf, c0, c1, c2, hfz⟩ := HTr5.out.cells (by omega)
  have n2 := HTr5.out.ncell c0 (j := 2) hil (by omega) rfl
  have n3 := HTr5.out.ncell c0 (j := 3) hil (by omega) rfl
  have n4 := HTr5.out.ncell c0 (j := 4) hil (by omega) rfl
  have n5 := HTr5.out.ncell c0 (j := 5) hil (by omega) rfl
  have f2 := HTr5.out.nfree (by omega) c0 (i0 * 6 + 2)
  have f3 := HTr5.out.nfree (by omega) c0 (i0 * 6 + 3)
  have f4 := HTr5.out.nfree (by omega) c0 (i0 * 6 + 4)
  have f5 := HTr5.out.nfree (by omega) c0 (i0 * 6 + 5)
  obtain ⟨e1, e2⟩ := HTr5.out.setR c0 false zR hil
  have HClr := Lib.hid (HR.out.clear (x := ⟨a, n, o⟩) (by simpa using hk1) Hx.out Hm.out Hnd.out Hln.out)
  have HCf : Hid (Full pl rs' a n) := Lib.hid (by have := HFull.out.clear (x := ⟨a, n, o⟩) Hx.out Hm.out Ha.out; simpa using this)
  have HE1 := Lib.hid e1
  have HE2 := Lib.hid e2
  have hnl : (n : Int) < (ps.length : Int) := by omega
  have hxl6 : (i0 : Int) < (st.nodes.length : Int) := by omega
  rw [hi0] at q0
  clear hrow e1 e2 hk2 hk3 hfz c1 c2
  go_wp2
  go_quiet (fail)
  go_wp2
  -- LOOP
  have hws : w.heap.size ≤ w4.heap.size := Hws.out
  have E1 : Hid (TreeAt (fun k => X k ∧ k ≠ g) (((((w5.drewN nq).setCell ⟨bn, i0 * 6 + 2, none⟩ (.bool false)).setCell ⟨bn, i0 * 6 + 3, none⟩ (.int .u32 0)).setCell ⟨bn, i0 * 6 + 3 + 1, none⟩ (.int .i64 0)).setCell ⟨bn, i0 * 6 + 3 + 2, none⟩ (.int .i64 0)) t3 (clearR st i0)) := HE1
  have E2 : Hid (Ch (fun k => X k ∧ k ≠ g) w5 (((((w5.drewN nq).setCell ⟨bn, i0 * 6 + 2, none⟩ (.bool false)).setCell ⟨bn, i0 * 6 + 3, none⟩ (.int .u32 0)).setCell ⟨bn, i0 * 6 + 3 + 1, none⟩ (.int .i64 0)).setCell ⟨bn, i0 * 6 + 3 + 2, none⟩ (.int .i64 0))) := Lib.hid ⟨HE2.out.os, HE2.out.tape, HE2.out.output, HE2.out.size, HE2.out.block⟩
  generalize ((((w5.drewN nq).setCell ⟨bn, i0 * 6 + 2, none⟩ (.bool false)).setCell ⟨bn, i0 * 6 + 3, none⟩ (.int .u32 0)).setCell ⟨bn, i0 * 6 + 3 + 1, none⟩ (.int .i64 0)).setCell ⟨bn, i0 * 6 + 3 + 2, none⟩ (.int .i64 0) = w6 at *
  have hwl5 : w.heap.size < w5.heap.size := heap_lt HB5.out
  have hgw := HX.out g HX0.out
  have hgl5 : g < w5.heap.size := by omega
  have hbpX : ¬ (X bp ∧ bp ≠ g) := fun e => by have := HX.out _ e.1; omega
  have hbxX : ¬ (X w.heap.size ∧ w.heap.size ≠ g) := fun e => by have := HX.out _ e.1; omega
  have hst0 := HR.out.zero
  have HG0 : Hid (Cutt (fun k => X k ∧ k ≠ g) w5 w6 t3 st rs' a n ps) := Lib.hid ⟨E2.out, clearR st i0, pl, E1.out.mono fun k hk => .inl hk, HClr.out, HCf.out, HAll.out, List.length_set, rfl⟩
  clear HE1 HE2 E1 E2 p0 p1 q0 c0 n2 n3 n4 n5 f2 f3 f4 f5 HTr5 HClr HCf HAll
  go_loopw [9] (fun i wr => ∃ j : Nat, j ≤ n ∧ i = .int .i64 j ∧ Cutt (fun k => X k ∧ k ≠ g) w5 wr t3 st rs' a j ps) (fun i _ => (intOf i).toNat)
  case atStart => exact ⟨n, Nat.le_refl _, rfl, HG0.out⟩
  case round =>
    clear HG0
    obtain ⟨j, hj, rfl, hG⟩ := hrel
    have hkg : wr.cell? ⟨g, 0, none⟩ = some (.pointer (some ⟨t3, 0, none⟩)) := hG.ch.cell k5 (fun e => e.2 rfl)
    have hbox := (hG.ch.block _ hwl5 hbxX).trans HB5.out
    have p0 : wr.cell? ⟨w.heap.size, 0, none⟩ = some (.int .u32 a) := (cell_of_row wr _ 0 _ _ (0, 0) hbox).trans rfl
    have q0 : wr.cell? ⟨bp, j, none⟩ = some (.int .i64 (ps.getD j 0 : Nat)) := hG.ch.cell (HRow.out j (by omega)) hbpX
    obtain ⟨st', pl', hT', hR', hF', hat', hlen', hcn'⟩ := hG.rep
    have HC := Lib.hid hG.ch
    have hz0 : 0 < st'.nodes.length := by omega
    have hatj := hat' j (Nat.le_refl _)
    have hil' : ps.getD j 0 < st'.nodes.length := hR'.lt _ _ _ hatj
    obtain ⟨bn2, cn2, af2, cf2, c0, c1, c2, _⟩ := hT'.cells hz0
    have m0 : wr.cell? ⟨bn2, ps.getD j 0 * 6, none⟩ = some (.int .i64 (R.nd st'.nodes (ps.getD j 0)).c0) := hT'.ncell c0 (j := 0) hil' (by omega) rfl
    have m1 := hT'.ncell c0 (j := 1) hil' (by omega) rfl
    have m2 := hT'.ncell c0 (j := 2) hil' (by omega) rfl
    have m3 := hT'.ncell c0 (j := 3) hil' (by omega) rfl
    have m4 := hT'.ncell c0 (j := 4) hil' (by omega) rfl
    have m5 := hT'.ncell c0 (j := 5) hil' (by omega) rfl
    have HT' := Lib.hid hT'
    have HR' := Lib.hid hR'
    have HF' := Lib.hid hF'
    have HAt' := Lib.hid hat'
    have Hln2 := Lib.hid hlen'
    have Hcn : Hid (st'.count = rs.length) := Lib.hid (hcn'.trans HR.out.count)
    clear hcn'
    by_cases hj0 : j = 0
    · subst hj0
      have HF0 := Lib.hid (Full.stop HR'.out Ha.out (by omega) HF'.out hatj (.inl rfl))
      clear m0 m1 m2 m3 m4 m5 hT' hR' hF' hat' hG c0 c1 c2 hatj hlen' q0 HF' HAt'
      go_wp2
      go_quiet (fail)
      have hbq := Lib.hid (show Ch (fun k => X k ∧ k ≠ g) w5 (wr.drewN nq) from ⟨HC.out.os, HC.out.tape, HC.out.output, HC.out.size, HC.out.block⟩)
      have htq : Hid (TreeAt (Up (fun k => X k ∧ k ≠ g) w5 (wr.drewN nq)) (wr.drewN nq) t3 st') := HT'
      have hkq : (wr.drewN nq).cell? ⟨g, 0, none⟩ = some (.pointer (some ⟨t3, 0, none⟩)) := hkg
      clear HC HT' hkg p0 hbox
      generalize wr.drewN nq = wr2 at *
      have HC := hbq
      have HT' := htq
      have hkg := hkq
      clear hbq htq hkq
      obtain ⟨bn1, cn1, af1, cf1, d0, d1, d2, hfz1⟩ := HT'.out.cells hz0
      have hfz2 := hfz1 2
      have hcb : 1 ≤ st'.count ∧ st'.count ≤ 256 := by have := Hcn.out; have := Hln.out; omega
      have ecn : (st'.count : Int) - 1 = ((st'.count - 1 : Nat) : Int) := by omega
      obtain ⟨g1, g2⟩ := HT'.out.setCount (st'.count - 1)
      have hfin : Hid (Ch X w (wr2.setCell ⟨t3, 2, none⟩ (.int .i64 ((st'.count : Int) - 1))) ∧ ∃ s', TrieAt (Up X w (wr2.setCell ⟨t3, 2, none⟩ (.int .i64 ((st'.count : Int) - 1)))) (wr2.setCell ⟨t3, 2, none⟩ (.int .i64 ((st'.count : Int) - 1))) g s' ∧ R.Inv s' rs' ∧ s'.nodes.length ≤ st.nodes.length) := Lib.hid (by
        rw [ecn]
        have hC8 : Ch (fun k => X k ∧ k ≠ g) w5 (wr2.setCell ⟨t3, 2, none⟩ (.int .i64 (st'.count - 1 : Nat))) := HC.out.trans g2 fun j hj hjl => Up.low j hj hjl
        have hC9 : Ch X w (wr2.setCell ⟨t3, 2, none⟩ (.int .i64 (st'.count - 1 : Nat))) := (Ch.ofBelow hbw5 X).trans hC8 fun j hj _ => hj.1
        refine ⟨hC9, less st', ⟨t3, (hC8.block g hgl5 (fun e => e.2 rfl)).trans HBlk5.out, .inl HX0.out, g1.mono fun j hj => ?_⟩, ⟨_, HR'.out, HF0.out⟩, Nat.le_of_eq Hln2.out⟩
        rcases hj with hj | hj
        · exact ⟨.inl hj.1, hj.2⟩
        · have := hbw5.size
          have h9 := g2.size
          refine ⟨.inr ⟨by omega, ?_⟩, by omega⟩
          simp [World.setCell] at h9 ⊢
          omega)
      clear ecn g1 g2 hfz1 d0 d1 HT' HR' HF0 Hln2 HC
      go_wp2
      go_ret
      exact ⟨rfl, hfin.out⟩

    · obtain ⟨k, hk⟩ : ∃ k, j = k + 1 := ⟨j - 1, by omega⟩
      have Hk := Lib.hid hk
      have hj1 : (0 : Int) < (j : Int) := by omega
      have hj2 : 0 < j := by omega
      have hj3 : decide ((0 : Int) < (j : Int)) = true := decide_eq_true hj1
      have hj4 : decide (0 < j) = true := decide_eq_true hj2
      clear hj0
      have ej : (j : Int) - 1 = (k : Int) := by omega
      have q1 : wr.cell? ⟨bp, k, none⟩ = some (.int .i64 (ps.getD k 0 : Nat)) := hG.ch.cell (HRow.out k (by omega)) hbpX
      have hatk := hat' k (by omega)
      have hik : ps.getD k 0 < st'.nodes.length := hR'.lt _ _ _ hatk
      have HN := Lib.hid (HEq.out (R.nd st'.nodes (ps.getD j 0)))
      have HAj := Lib.hid hatj
      have HAk := Lib.hid hatk
      have Hstop := Lib.hid (fun hne => Full.stop HR'.out Ha.out (by omega) HF'.out hatj (.inr hne))
      have Hz := Lib.hid (show ∀ h : R.nd st'.nodes (ps.getD j 0) = zN, R.nd (less st').nodes (ps.getD j 0) = zN from fun h => h)
      generalize hx : ps.getD j 0 = x at *
      generalize hy : ps.getD k 0 = y at *
      have Hx1 := Lib.hid hx
      have Hy1 := Lib.hid hy
      have hxl : (x : Int) < (st'.nodes.length : Int) := by omega
      have hyl : (y : Int) < (st'.nodes.length : Int) := by omega
      have hjl : (j : Int) < (n : Int) + 1 := by omega
      have hkl : (k : Int) < (n : Int) + 1 := by omega
      change Hid (R.nd st'.nodes x ≠ zN → Full pl' rs' 0 0) at Hstop
      generalize hNN : R.nd st'.nodes x = N at *
      have HNN := Lib.hid hNN
      clear hT' hR' hF' hat' hG c1 c2 hatj hatk hlen' hk hx hy hNN
      by_cases hz : N = zN
      · have HF1 := HF'
        have he : ∀ w, (binOp .eql 59 (.agg #[.int .i64 N.c0, .int .i64 N.c1, .bool N.has, .int .u32 N.r.a, .int .i64 N.r.b, .int .i64 N.r.o]) (.agg #[.int .i64 0, .int .i64 0, .bool false, .int .u32 0, .int .i64 0, .int .i64 0])).run Try.prog w = .ok (.bool true) w := fun w => by rw [HN.out w, decide_eq_true hz]
        have HZ := Lib.hid hz
        clear hz
        go_wp2
        go_quiet (fail)
        have HCq := Lib.hid (show Ch (fun k => X k ∧ k ≠ g) w5 (wr.drewN nq) from ⟨HC.out.os, HC.out.tape, HC.out.output, HC.out.size, HC.out.block⟩)
        have HTq : Hid (TreeAt (Up (fun k => X k ∧ k ≠ g) w5 (wr.drewN nq)) (wr.drewN nq) t3 st') := HT'
        have kq0 : (wr.drewN nq).cell? ⟨g, 0, none⟩ = some (.pointer (some ⟨t3, 0, none⟩)) := hkg
        have kq1 : (wr.drewN nq).cell? ⟨w.heap.size, 0, none⟩ = some (.int .u32 a) := p0
        have kq2 : (wr.drewN nq).cell? ⟨bp, j, none⟩ = some (.int .i64 x) := q0
        have kq3 : (wr.drewN nq).cell? ⟨bp, k, none⟩ = some (.int .i64 y) := q1
        have kq4 : (wr.drewN nq).cell? ⟨t3, 0, none⟩ = some (.slice (some ⟨bn2, 0, none⟩) st'.nodes.length cn2) := c0
        clear HC HT' hkg p0 hbox m0 m1 m2 m3 m4 m5 q0 q1 c0 he
        generalize wr.drewN nq = wr2 at *
        have hbit := A.bit_le a k
        have HTn := Lib.hid (fun w' => turn_q a k w' Ha.out (by omega))
        go_wp2
        refine region_quiet_tail 19 (by kernel_rfl) (by kernel_rfl) ?_
        simp only [List.take_succ_cons, List.take_zero]
        repeat (go_big_quiet_step ((go_at_call 23; refine Calls.quiet_of_same (HTn.out _))))
        refine wpQuiet_nil ?_
        rintro w7 ⟨nq7, hw7⟩
        have HC7 : Ch (fun k => X k ∧ k ≠ g) w5 w7 := by rw [hw7]; exact ⟨HCq.out.os, HCq.out.tape, HCq.out.output, HCq.out.size, HCq.out.block⟩
        have hT7 : TreeAt (Up (fun k => X k ∧ k ≠ g) w5 w7) w7 t3 st' := by rw [hw7]; exact HTq.out
        have d0 : w7.cell? ⟨t3, 0, none⟩ = some (.slice (some ⟨bn2, 0, none⟩) st'.nodes.length cn2) := by rw [hw7]; exact kq4
        have d1 := hT7.ncell d0 (i := y) hik (show A.bit a k < 6 by omega) (Nd.v_ch _ _ hbit)
        have d2 := hT7.nfree (by omega) d0 (y * 6 + A.bit a k)
        have hln7 : bn2 < w7.heap.size := World.block_lt_of_cell? _ _ d1
        obtain ⟨e1, e2, _⟩ := hT7.setLink d0 (i := y) (b := A.bit a k) 0 hik hbit
        have HT8 : Hid (TreeAt (Up (fun k => X k ∧ k ≠ g) w5 w7) (w7.setCell ⟨bn2, y * 6 + A.bit a k, none⟩ (.int .i64 0)) t3 (link st' y (A.bit a k) 0)) := Lib.hid e1
        have HC8 : Hid (Ch (fun k => X k ∧ k ≠ g) w5 (w7.setCell ⟨bn2, y * 6 + A.bit a k, none⟩ (.int .i64 0))) := Lib.hid (HC7.trans e2 fun j hj hjl => Up.low j hj hjl)
        have hz8 : (w7.setCell ⟨bn2, y * 6 + A.bit a k, none⟩ (.int .i64 0)).heap.size = w7.heap.size := by simp [World.setCell]
        clear HCq HTq kq0 kq1 kq2 kq3 kq4 HC7 hT7 d0 e1 e2 hw7 HTn
        simp only [List.drop_succ_cons, List.drop_zero]
        generalize hbt : A.bit a k = bt at *
        have Hbt := Lib.hid hbt
        clear hbt
        go_upto_region 13 with fail
        generalize w7.setCell ⟨bn2, y * 6 + bt, none⟩ (.int .i64 0) = w8 at *
        have kg8 : w8.cell? ⟨g, 0, none⟩ = some (.pointer (some ⟨t3, 0, none⟩)) := HC8.out.cell k5 (fun e => e.2 rfl)
        have kq8 : w8.cell? ⟨bp, j, none⟩ = some (.int .i64 x) := by rw [← Hx1.out]; exact HC8.out.cell (HRow.out j (by omega)) hbpX
        have hlk : (link st' y bt 0).nodes.length = st'.nodes.length := List.length_set
        obtain ⟨bn8, cn8, af8, cf8, _, c18, _, hfz8⟩ := HT8.out.cells (by rw [hlk]; omega)
        have HT9 : TreeAt (Up (fun k => X k ∧ k ≠ g) w5 w7) w8.drew t3 (link st' y bt 0) := HT8.out
        have hfl : (link st' y bt 0).free.length ≤ 900000 := by
          have h1 := HR'.out.free_le
          have h2 : (link st' y bt 0).free.length = st'.free.length := rfl
          have h3 : (less st').free.length = st'.free.length := rfl
          have h4 : (less st').nodes.length = st'.nodes.length := rfl
          have := Hln2.out
          omega
        obtain ⟨ao', cap', w9, hrun, hkeep, e91, e92, hsz9, hT10, hC10⟩ := append_free _ t3 (link st' y bt 0) x w8.drew HT9 hfl c18
        have hup : ∀ b, b < w5.heap.size → ¬ (X b ∧ b ≠ g) → ¬ Up (fun k => X k ∧ k ≠ g) w5 w7 b := fun b h1 h2 h3 => h2 (Up.low b h3 h1)
        have kg9 : w9.cell? ⟨g, 0, none⟩ = some (.pointer (some ⟨t3, 0, none⟩)) := hkeep _ _ _ kg8 (hup g hgl5 (fun e => e.2 rfl))
        have kq9 : w9.cell? ⟨bp, j, none⟩ = some (.int .i64 x) := hkeep _ _ _ kq8 (hup bp hbp hbpX)
        have l1 : g < w8.heap.size := World.block_lt_of_cell? _ _ kg8
        have l2 : bp < w8.heap.size := World.block_lt_of_cell? _ _ kq8
        have l3 : t3 < w8.heap.size := World.block_lt_of_cell? _ _ c18
        have Hrun := Lib.hid hrun
        have HT10 := Lib.hid hT10
        have HC10 := Lib.hid hC10
        have f18 := hfz8 1
        clear hrun hT10 hC10 hkeep HT9 hfl hfz8 hup
        generalize (link st' y bt 0).free.length = F at *
        have HKG : Hid (∀ listed, (WF3g 15 16 w8.drew (w8.drew.alloc (.cells #[.int .i64 x] 3)) w9 listed).cell? ⟨g, 0, none⟩ = some (.pointer (some ⟨t3, 0, none⟩))) := Lib.hid fun listed => WF3g_all (p := 15) (q := 16) (W1 := w8.drew) (W2 := w8.drew.alloc (.cells #[.int .i64 x] 3)) (W3 := w9) (Q := fun W => W.cell? ⟨g, 0, none⟩ = some (.pointer (some ⟨t3, 0, none⟩))) kg8 ((World.cell?_of_block (Below.heap_alloc w8.drew _ g l1)).trans kg8) kg9 listed
        have HKF : Hid (∀ listed, (WF3g 15 16 w8.drew (w8.drew.alloc (.cells #[.int .i64 x] 3)) w9 listed).cell? ⟨t3, 1, none⟩ = some (.slice af8 F cf8)) := Lib.hid fun listed => WF3g_all (p := 15) (q := 16) (W1 := w8.drew) (W2 := w8.drew.alloc (.cells #[.int .i64 x] 3)) (W3 := w9) (Q := fun W => W.cell? ⟨t3, 1, none⟩ = some (.slice af8 F cf8)) c18 ((World.cell?_of_block (Below.heap_alloc w8.drew _ t3 l3)).trans c18) e91 listed
        have HKQ : Hid (∀ listed, (WF3g 15 16 w8.drew (w8.drew.alloc (.cells #[.int .i64 x] 3)) w9 listed).cell? ⟨bp, j, none⟩ = some (.int .i64 x)) := Lib.hid fun listed => WF3g_all (p := 15) (q := 16) (W1 := w8.drew) (W2 := w8.drew.alloc (.cells #[.int .i64 x] 3)) (W3 := w9) (Q := fun W => W.cell? ⟨bp, j, none⟩ = some (.int .i64 x)) kq8 ((World.cell?_of_block (Below.heap_alloc w8.drew _ bp l2)).trans kq8) kq9 listed
        have hz8' : w8.drew.heap.size = w8.heap.size := rfl
        rw [hz8'] at Hrun
        clear hz8'
        refine region_gen_tail 17 (VE [(.pointer (some ⟨g, 0, none⟩)), (.pointer (some ⟨g, 0, none⟩)), (.pointer (some ⟨g, 0, none⟩)), (.pointer (some ⟨t3, 0, none⟩)), (.pointer (some ⟨g, 0, none⟩)), (.pointer (some ⟨g, 0, none⟩)), (.pointer (some ⟨g, 0, none⟩)), (.pointer (some ⟨t3, 0, none⟩)), (.pointer (some ⟨t3, 0, none⟩)), (.pointer (some ⟨t3, 1, none⟩)), (.slice af8 F cf8), (.slice (some ⟨bp, 0, none⟩) (n + 1) cap), (.int .i64 j), (.pointer (some ⟨bp, j, none⟩)), (.int .i64 x), (.slice (some ⟨w8.heap.size, 0, none⟩) 1 1), ((.slice ao' (F + 1) cap'))]) (SE (WF3g 15 16 w8.drew (w8.drew.alloc (.cells #[.int .i64 x] 3)) w9)) (by kernel_rfl) (by kernel_rfl) (by kernel_rfl) (by show w8.drew = _; unfold WF3g; rw [if_neg (by rw [getD_replicate_false]; simp)]) ⟨?_, ?_, ?_, ?_, ?_, ?_, ?_, ?_, ?_, ?_, ?_, ?_, ?_, ?_, ?_, ?_, ?_, trivial⟩ ?_
        · go_light; intro listed a' w' hs hS hun hdep
          have e0 : a'.eval (.tmp 0) = .pointer (some ⟨g, 0, none⟩) := (hs.out 0 (by kernel_rfl)).trans (rfl)
          refine e_val (.pointer (some ⟨g, 0, none⟩)) hS rfl ?_ (fun x hx => by injection hx) (WF3g_ne (by decide) (by decide))
          have hcn := BigFrame.eval_const a'; have hfn := BigFrame.eval_func a'; clear hs hdep; generalize a'.eval = ev at *; go_simp
        · go_light; intro listed a' w' hs hS hun hdep
          have e95 : a'.eval (.tmp 95) = .pointer (some ⟨g, 0, none⟩) := hs.eval 0 _ 95 rfl (hdep ⟨0, .data⟩ (by simp) rfl) rfl _ rfl
          refine e_val (.pointer (some ⟨g, 0, none⟩)) hS rfl ?_ (fun x hx => by injection hx) (WF3g_ne (by decide) (by decide))
          have hcn := BigFrame.eval_const a'; have hfn := BigFrame.eval_func a'; clear hs hdep; generalize a'.eval = ev at *; go_simp
        · go_light; intro listed a' w' hs hS hun hdep
          have e96 : a'.eval (.tmp 96) = .pointer (some ⟨g, 0, none⟩) := hs.eval 1 _ 96 rfl (hdep ⟨1, .data⟩ (by simp) rfl) rfl _ rfl
          refine e_val (.pointer (some ⟨g, 0, none⟩)) hS rfl ?_ (fun x hx => by injection hx) (WF3g_ne (by decide) (by decide))
          have hcn := BigFrame.eval_const a'; have hfn := BigFrame.eval_func a'; clear hs hdep; generalize a'.eval = ev at *; go_simp
        · go_light; intro listed a' w' hs hS hun hdep
          have e97 : a'.eval (.tmp 97) = .pointer (some ⟨g, 0, none⟩) := hs.eval 2 _ 97 rfl (hdep ⟨2, .data⟩ (by simp) rfl) rfl _ rfl
          have kk : w'.cell? ⟨g, 0, none⟩ = some (.pointer (some ⟨t3, 0, none⟩)) := by rw [show w' = _ from hS]; exact HKG.out listed
          refine e_val (.pointer (some ⟨t3, 0, none⟩)) hS rfl ?_ (fun x hx => by injection hx) (WF3g_ne (by decide) (by decide))
          have hcn := BigFrame.eval_const a'; have hfn := BigFrame.eval_func a'; clear hs hdep; generalize a'.eval = ev at *; go_simp
        · go_light; intro listed a' w' hs hS hun hdep
          have e0 : a'.eval (.tmp 0) = .pointer (some ⟨g, 0, none⟩) := (hs.out 0 (by kernel_rfl)).trans (rfl)
          refine e_val (.pointer (some ⟨g, 0, none⟩)) hS rfl ?_ (fun x hx => by injection hx) (WF3g_ne (by decide) (by decide))
          have hcn := BigFrame.eval_const a'; have hfn := BigFrame.eval_func a'; clear hs hdep; generalize a'.eval = ev at *; go_simp
        · go_light; intro listed a' w' hs hS hun hdep
          have e99 : a'.eval (.tmp 99) = .pointer (some ⟨g, 0, none⟩) := hs.eval 4 _ 99 rfl (hdep ⟨4, .data⟩ (by simp) rfl) rfl _ rfl
          refine e_val (.pointer (some ⟨g, 0, none⟩)) hS rfl ?_ (fun x hx => by injection hx) (WF3g_ne (by decide) (by decide))
          have hcn := BigFrame.eval_const a'; have hfn := BigFrame.eval_func a'; clear hs hdep; generalize a'.eval = ev at *; go_simp
        · go_light; intro listed a' w' hs hS hun hdep
          have e100 : a'.eval (.tmp 100) = .pointer (some ⟨g, 0, none⟩) := hs.eval 5 _ 100 rfl (hdep ⟨5, .data⟩ (by simp) rfl) rfl _ rfl
          refine e_val (.pointer (some ⟨g, 0, none⟩)) hS rfl ?_ (fun x hx => by injection hx) (WF3g_ne (by decide) (by decide))
          have hcn := BigFrame.eval_const a'; have hfn := BigFrame.eval_func a'; clear hs hdep; generalize a'.eval = ev at *; go_simp
        · go_light; intro listed a' w' hs hS hun hdep
          have e101 : a'.eval (.tmp 101) = .pointer (some ⟨g, 0, none⟩) := hs.eval 6 _ 101 rfl (hdep ⟨6, .data⟩ (by simp) rfl) rfl _ rfl
          have kk : w'.cell? ⟨g, 0, none⟩ = some (.pointer (some ⟨t3, 0, none⟩)) := by rw [show w' = _ from hS]; exact HKG.out listed
          refine e_val (.pointer (some ⟨t3, 0, none⟩)) hS rfl ?_ (fun x hx => by injection hx) (WF3g_ne (by decide) (by decide))
          have hcn := BigFrame.eval_const a'; have hfn := BigFrame.eval_func a'; clear hs hdep; generalize a'.eval = ev at *; go_simp
        · go_light; intro listed a' w' hs hS hun hdep
          have e102 : a'.eval (.tmp 102) = .pointer (some ⟨t3, 0, none⟩) := hs.eval 7 _ 102 rfl (hdep ⟨7, .data⟩ (by simp) rfl) rfl _ rfl
          refine e_val (.pointer (some ⟨t3, 0, none⟩)) hS rfl ?_ (fun x hx => by injection hx) (WF3g_ne (by decide) (by decide))
          have hcn := BigFrame.eval_const a'; have hfn := BigFrame.eval_func a'; clear hs hdep; generalize a'.eval = ev at *; go_simp
        · go_light; intro listed a' w' hs hS hun hdep
          have e103 : a'.eval (.tmp 103) = .pointer (some ⟨t3, 0, none⟩) := hs.eval 8 _ 103 rfl (hdep ⟨8, .data⟩ (by simp) rfl) rfl _ rfl
          refine e_val (.pointer (some ⟨t3, 1, none⟩)) hS rfl ?_ (fun x hx => by injection hx) (WF3g_ne (by decide) (by decide))
          have hcn := BigFrame.eval_const a'; have hfn := BigFrame.eval_func a'; clear hs hdep; generalize a'.eval = ev at *; go_simp
        · go_light; intro listed a' w' hs hS hun hdep
          have e104 : a'.eval (.tmp 104) = .pointer (some ⟨t3, 1, none⟩) := hs.eval 9 _ 104 rfl (hdep ⟨9, .data⟩ (by simp) rfl) rfl _ rfl
          have kk : w'.cell? ⟨t3, 1, none⟩ = some (.slice af8 F cf8) := by rw [show w' = _ from hS]; exact HKF.out listed
          refine e_val (.slice af8 F cf8) hS rfl ?_ (fun x hx => by injection hx) (WF3g_ne (by decide) (by decide))
          have hcn := BigFrame.eval_const a'; have hfn := BigFrame.eval_func a'; clear hs hdep; generalize a'.eval = ev at *; go_simp
        · go_light; intro listed a' w' hs hS hun hdep
          have e7 : a'.eval (.tmp 7) = .slice (some ⟨bp, 0, none⟩) (n + 1) cap := (hs.out 7 (by kernel_rfl)).trans (rfl)
          refine e_val (.slice (some ⟨bp, 0, none⟩) (n + 1) cap) hS rfl ?_ (fun x hx => by injection hx) (WF3g_ne (by decide) (by decide))
          have hcn := BigFrame.eval_const a'; have hfn := BigFrame.eval_func a'; clear hs hdep; generalize a'.eval = ev at *; go_simp
        · go_light; intro listed a' w' hs hS hun hdep
          have e9 : a'.eval (.tmp 9) = .int .i64 j := (hs.out 9 (by kernel_rfl)).trans (rfl)
          refine e_val (.int .i64 j) hS rfl ?_ (fun x hx => by injection hx) (WF3g_ne (by decide) (by decide))
          have hcn := BigFrame.eval_const a'; have hfn := BigFrame.eval_func a'; clear hs hdep; generalize a'.eval = ev at *; go_simp
        · go_light; intro listed a' w' hs hS hun hdep
          have e106 : a'.eval (.tmp 106) = .slice (some ⟨bp, 0, none⟩) (n + 1) cap := hs.eval 11 _ 106 rfl (hdep ⟨11, .data⟩ (by simp) rfl) rfl _ rfl
          have e107 : a'.eval (.tmp 107) = .int .i64 j := hs.eval 12 _ 107 rfl (hdep ⟨12, .data⟩ (by simp) rfl) rfl _ rfl
          refine e_val (.pointer (some ⟨bp, j, none⟩)) hS rfl ?_ (fun x hx => by injection hx) (WF3g_ne (by decide) (by decide))
          have hcn := BigFrame.eval_const a'; have hfn := BigFrame.eval_func a'; clear hs hdep; generalize a'.eval = ev at *; go_simp
        · go_light; intro listed a' w' hs hS hun hdep
          have e108 : a'.eval (.tmp 108) = .pointer (some ⟨bp, j, none⟩) := hs.eval 13 _ 108 rfl (hdep ⟨13, .data⟩ (by simp) rfl) rfl _ rfl
          have kk : w'.cell? ⟨bp, j, none⟩ = some (.int .i64 x) := by rw [show w' = _ from hS]; exact HKQ.out listed
          refine e_val (.int .i64 x) hS rfl ?_ (fun x hx => by injection hx) (WF3g_ne (by decide) (by decide))
          have hcn := BigFrame.eval_const a'; have hfn := BigFrame.eval_func a'; clear hs hdep; generalize a'.eval = ev at *; go_simp
        · go_light; intro listed a' w' hs hS hun hdep
          have e109 : a'.eval (.tmp 109) = .int .i64 x := hs.eval 14 _ 109 rfl (hdep ⟨14, .data⟩ (by simp) rfl) rfl _ rfl
          have h15 := getD_both hun
          have h16 : listed.getD 16 false = false := by
            cases h : listed.getD 16 false
            · rfl
            · have := hs.closed 16 _ rfl h ⟨15, .data⟩ (by simp) rfl
              rw [h15] at this
              cases this
          have s15 : (listed.setIfInBounds 15 true).getD 15 false = true := by simp [hs.size]
          have s16 : (listed.setIfInBounds 15 true).getD 16 false = false := (getD_set_ne false (by decide)).trans h16
          obtain rfl : w' = w8.drew := hS.trans (by unfold WF3g; rw [h15]; simp)
          refine e_eff (.slice (some ⟨w8.heap.size, 0, none⟩) 1 1) (w8.drew.alloc (.cells #[.int .i64 x] 3)) rfl ?_ (fun x hx => by injection hx) (by unfold WF3g; rw [s15, s16]; simp)
          have hcn := BigFrame.eval_const a'; have hfn := BigFrame.eval_func a'; clear hs hdep; generalize a'.eval = ev at *; go_simp
        · go_light; intro listed a' w' hs hS hun hdep
          have e105 : a'.eval (.tmp 105) = .slice af8 F cf8 := hs.eval 10 _ 105 rfl (hdep ⟨10, .data⟩ (by simp) rfl) rfl _ rfl
          have e110 : a'.eval (.tmp 110) = .slice (some ⟨w8.heap.size, 0, none⟩) 1 1 := hs.eval 15 _ 110 rfl (hdep ⟨15, .data⟩ (by simp) rfl) rfl _ rfl
          have h16 := getD_both hun
          have h15 : listed.getD 15 false = true := hdep ⟨15, .data⟩ (by simp) rfl
          have s16 : (listed.setIfInBounds 16 true).getD 16 false = true := by simp [hs.size]
          have s15 : (listed.setIfInBounds 16 true).getD 15 false = true := (getD_set_ne false (by decide)).trans h15
          obtain rfl : w' = (w8.drew.alloc (.cells #[.int .i64 x] 3)) := hS.trans (by unfold WF3g; rw [h15, h16]; simp)
          exact e_eff ((.slice ao' (F + 1) cap')) w9 rfl (run_op_append rfl e105 e110 Hrun.out) (fun x hx => by injection hx) (by unfold WF3g; rw [s15, s16]; simp)
        intro vs w10 hlen' hV hS
        obtain ⟨v0, v1, v2, v3, v4, v5, v6, v7, v8, v9, v10, v11, v12, v13, v14, v15, v16, rfl⟩ := vs_17 vs (hlen'.trans rfl)
        have q0 : v0 = .pointer (some ⟨g, 0, none⟩) := hV 0 _ rfl _ rfl
        have q1 : v1 = .pointer (some ⟨g, 0, none⟩) := hV 1 _ rfl _ rfl
        have q2 : v2 = .pointer (some ⟨g, 0, none⟩) := hV 2 _ rfl _ rfl
        have q3 : v3 = .pointer (some ⟨t3, 0, none⟩) := hV 3 _ rfl _ rfl
        have q4 : v4 = .pointer (some ⟨g, 0, none⟩) := hV 4 _ rfl _ rfl
        have q5 : v5 = .pointer (some ⟨g, 0, none⟩) := hV 5 _ rfl _ rfl
        have q6 : v6 = .pointer (some ⟨g, 0, none⟩) := hV 6 _ rfl _ rfl
        have q7 : v7 = .pointer (some ⟨t3, 0, none⟩) := hV 7 _ rfl _ rfl
        have q8 : v8 = .pointer (some ⟨t3, 0, none⟩) := hV 8 _ rfl _ rfl
        have q9 : v9 = .pointer (some ⟨t3, 1, none⟩) := hV 9 _ rfl _ rfl
        have q10 : v10 = .slice af8 F cf8 := hV 10 _ rfl _ rfl
        have q11 : v11 = .slice (some ⟨bp, 0, none⟩) (n + 1) cap := hV 11 _ rfl _ rfl
        have q12 : v12 = .int .i64 j := hV 12 _ rfl _ rfl
        have q13 : v13 = .pointer (some ⟨bp, j, none⟩) := hV 13 _ rfl _ rfl
        have q14 : v14 = .int .i64 x := hV 14 _ rfl _ rfl
        have q15 : v15 = .slice (some ⟨w8.heap.size, 0, none⟩) 1 1 := hV 15 _ rfl _ rfl
        have q16 : v16 = (.slice ao' (F + 1) cap') := hV 16 _ rfl _ rfl
        obtain rfl : w10 = w9 := hS
        subst q0 q1 q2 q3 q4 q5 q6 q7 q8 q9 q10 q11 q12 q13 q14 q15 q16
        clear hV hlen'
        simp only [lays, Act.put, List.setIfInBounds_toArray, List.set_cons_zero, List.set_cons_succ, List.drop_succ_cons, List.drop_zero, List.take_succ_cons, List.take_zero]
        have HG9 : Hid (Cutt (fun k => X k ∧ k ≠ g) w5 (w10.setCell ⟨t3, 1, none⟩ (.slice ao' (F + 1) cap')) t3 st rs' a k ps) := Lib.hid (by
          have hz : R.nd (less st').nodes x = zN := Hz.out HZ.out
          have hum : Hid (j = k + 1) := Hk
          have ek := hum.out
          have ha1 : pl' (k + 1) (hi a (k + 1)) = some x := by rw [← ek]; exact HAj.out
          have hup2 := hi_up a k (by omega)
          have hmd := hi_mod a k (by omega)
          have hP := HR'.out.prune ha1 (by rw [hup2]; exact HAk.out) hz
          rw [hmd, Hbt.out] at hP
          have hFF := Full.cut HR'.out (by rw [← ek]; exact HF'.out) ha1 hz
          have h10 := HC10.out
          have h10' : Ch (Up (fun k => X k ∧ k ≠ g) w5 w7) w8 (w10.setCell ⟨t3, 1, none⟩ (.slice ao' (F + 1) cap')) := ⟨h10.os, h10.tape, h10.output, h10.size, h10.block⟩
          have hC9 : Ch (fun k => X k ∧ k ≠ g) w5 (w10.setCell ⟨t3, 1, none⟩ (.slice ao' (F + 1) cap')) := HC8.out.trans h10' fun j hj hjl => Up.low j hj hjl
          refine ⟨hC9, cutN st' y bt x, _, HT10.out.mono fun q hq => ?_, hP, hFF, fun i hi => ?_, ?_, ?_⟩
          · have s1 := HC8.out.size
            have s2 := h10'.size
            rcases hq with (hq | hq) | hq
            · exact .inl hq
            · exact .inr ⟨hq.1, by omega⟩
            · have : w8.heap.size ≤ q := hq.1
              exact .inr ⟨by omega, hq.2⟩
          · unfold minus
            rw [if_neg (by omega)]
            exact HAt'.out i (by omega)
          · show (link st' y bt 0).nodes.length = _
            rw [show (link st' y bt 0).nodes.length = st'.nodes.length from List.length_set]
            exact Hln2.out
          · exact Hcn.out.trans HR.out.count.symm)
        clear HT10 HC10 HC8 HT8 HR' HF' HAt' HAj HAk Hstop Hz HNN HKG HKF HKQ Hrun
        go_wp2
        go_roundw
        case rel => exact ⟨k, by omega, by go_num, HG9.out⟩
        case measure => simp [intOf]; omega
      · have HF0 := Lib.hid (Hstop.out hz)
        have he : ∀ w, (binOp .eql 59 (.agg #[.int .i64 N.c0, .int .i64 N.c1, .bool N.has, .int .u32 N.r.a, .int .i64 N.r.b, .int .i64 N.r.o]) (.agg #[.int .i64 0, .int .i64 0, .bool false, .int .u32 0, .int .i64 0, .int .i64 0])).run Try.prog w = .ok (.bool false) w := fun w => by rw [HN.out w, decide_eq_false hz]
        clear hz
        go_wp2
        go_quiet (fail)
        have hbq := Lib.hid (show Ch (fun k => X k ∧ k ≠ g) w5 (wr.drewN nq) from ⟨HC.out.os, HC.out.tape, HC.out.output, HC.out.size, HC.out.block⟩)
        have htq : Hid (TreeAt (Up (fun k => X k ∧ k ≠ g) w5 (wr.drewN nq)) (wr.drewN nq) t3 st') := HT'
        have hkq : (wr.drewN nq).cell? ⟨g, 0, none⟩ = some (.pointer (some ⟨t3, 0, none⟩)) := hkg
        clear HC HT' hkg p0 hbox m0 m1 m2 m3 m4 m5 q0 q1 c0 he HF'
        generalize wr.drewN nq = wr2 at *
        have HC := hbq
        have HT' := htq
        have hkg := hkq
        clear hbq htq hkq
        obtain ⟨bn1, cn1, af1, cf1, d0, d1, d2, hfz1⟩ := HT'.out.cells hz0
        have hfz2 := hfz1 2
        have hcb : 1 ≤ st'.count ∧ st'.count ≤ 256 := by have := Hcn.out; have := Hln.out; omega
        have ecn : (st'.count : Int) - 1 = ((st'.count - 1 : Nat) : Int) := by omega
        obtain ⟨g1, g2⟩ := HT'.out.setCount (st'.count - 1)
        have hfin : Hid (Ch X w (wr2.setCell ⟨t3, 2, none⟩ (.int .i64 ((st'.count : Int) - 1))) ∧ ∃ s', TrieAt (Up X w (wr2.setCell ⟨t3, 2, none⟩ (.int .i64 ((st'.count : Int) - 1)))) (wr2.setCell ⟨t3, 2, none⟩ (.int .i64 ((st'.count : Int) - 1))) g s' ∧ R.Inv s' rs' ∧ s'.nodes.length ≤ st.nodes.length) := Lib.hid (by
          rw [ecn]
          have hC8 : Ch (fun k => X k ∧ k ≠ g) w5 (wr2.setCell ⟨t3, 2, none⟩ (.int .i64 (st'.count - 1 : Nat))) := HC.out.trans g2 fun j hj hjl => Up.low j hj hjl
          have hC9 : Ch X w (wr2.setCell ⟨t3, 2, none⟩ (.int .i64 (st'.count - 1 : Nat))) := (Ch.ofBelow hbw5 X).trans hC8 fun j hj _ => hj.1
          refine ⟨hC9, less st', ⟨t3, (hC8.block g hgl5 (fun e => e.2 rfl)).trans HBlk5.out, .inl HX0.out, g1.mono fun j hj => ?_⟩, ⟨_, HR'.out, HF0.out⟩, Nat.le_of_eq Hln2.out⟩
          rcases hj with hj | hj
          · exact ⟨.inl hj.1, hj.2⟩
          · have := hbw5.size
            have h9 := g2.size
            refine ⟨.inr ⟨by omega, ?_⟩, by omega⟩
            simp [World.setCell] at h9 ⊢
            omega)
        clear ecn g1 g2 hfz1 d0 d1 HT' HR' HF0 Hln2 HC
        go_wp2
        go_ret
        exact ⟨rfl, hfin.out⟩

#print axioms Drop_ok
end Go.Proofs.Ytpepjmcglglepaa
