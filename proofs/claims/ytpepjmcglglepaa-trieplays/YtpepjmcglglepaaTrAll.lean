/- All: every route, in its order. -/
import Derived.Test.YtpepjmcglglepaaTrEach2
import Derived.Test.YtpepjmcglglepaaTrOrders
import Derived.OwnWalkIn
namespace Go.Proofs.Ytpepjmcglglepaa
open Go.RowKit Go.Shelf
set_option maxRecDepth 100000
set_option linter.unusedVariables false
open R
attribute [local go_sem] Oper.semAt_some

theorem listAppendIn {F : Fence} {n : Nat} {P : Program} {ops : Array Oper} {rest : List Oper} {o : Oper} {a : Act} {w : World} {Q : Exit → Act → World → Prop} (hgd : o.guard = none) (s x : Operand) (t tx : TypeId)
    (hop : o.op = Op.call { callee := Callee.builtin Builtin.append, args := #[s, x], argTypes := #[t, tx] }) (sv xv : Value) (hs : a.eval s = sv) (hx : a.eval x = xv) (v' : Value) (w' : World)
    (hrun : (Builtin.append_ #[t, tx] o.type #[sv, xv]).run P w = .ok v' w') (h : wpListIn F n P ops Q rest (a.put o.dst v') w') : wpListIn F n P ops Q (o :: rest) a w :=
  wpListIn_plain hgd fun K hK => by
    unfold Oper.wpIn
    refine ⟨?_, ?_⟩
    · simp [Oper.about, hop, resolve, Target.leads, Sem.run_pure]
    · rw [Oper.semAt_plain F _ _ (by rw [hop]; intro c hc'; cases hc')]
      simp [execOp, hop, resolve, invoke, builtin, hs, hx, hrun, Result.andThen]
      exact hK _ _ h

/-- What has come lies in a row of the call's own, told of in a box. -/
def AllI (base b : Nat) (w0 : World) (pre : List Rt) (W : World) : Prop := ∃ ao cap, W.heap[b]? = some (Obj.cells #[.slice ao pre.length cap] 26 (0, 0)) ∧ RtOwn base ao cap pre W ∧ Below base w0 W
theorem AllI.own {base b : Nat} {w0 : World} {B : Nat} (hB : base ≤ B) (h0 : base ≤ w0.heap.size) : OwnFrom B (AllI base b w0) := fun s A C row hs hg hr => by
  obtain ⟨ao, cap, h1, h2, h3⟩ := hs
  have hne : ∀ k (c : Array Value) (t : Nat), A.heap[k]? = some (Obj.cells c t (0, 0)) → some k ≠ row := fun k c t hk e => by
    obtain ⟨_, o, ho, hc⟩ := hr k e.symm
    rw [hk] at ho
    cases ho
    cases hc
  refine ⟨ao, cap, (hg.block b (heap_lt h1) (hne b _ _ h1)).trans h1, World.ownsRow.kept h2 hg ?_, h3.grown hg (Nat.le_trans h0 h3.size) (fun k e => Nat.le_trans hB (hr k e).1)⟩
  cases hq : Value.ownBlock (.slice ao s.length cap) with
  | none => cases row <;> simp
  | some k =>
    obtain ⟨cur, hk⟩ := Own.isE h2 k hq
    exact .inr (hne k _ _ hk)
set_option maxHeartbeats 4000000 in
theorem All_in (X : Nat → Prop) (g : Nat) (st : St) (rs : List Rt) (w : World) (h : TrieAt X w g st) (hI : Inv st rs) (n : Nat) (hn : 3 ≤ n) (hc : rs.length ≤ 256) :
    CallsIn Fence.wide n Try.prog 18 #[.pointer (some ⟨g, 0, none⟩)] w fun e w' => ∃ ao cap xs, IsAll rs xs ∧ e = .returned (.slice ao xs.length cap) ∧ RtOwn w.heap.size ao cap xs w' ∧ Below w.heap.size w w' := by
  obtain ⟨pl, hR, hf⟩ := hI
  obtain ⟨t, k0, _, ht⟩ := h.ptr
  have h1 : 1 ≤ n := by omega
  have k1 : (w.alloc (.cells #[.slice none 0 0] 26)).cell? ⟨g, 0, none⟩ = some (.pointer (some ⟨t, 0, none⟩)) := cell_below ((Below.refl _ w).alloc (Nat.le_refl _) _) k0
  refine callsIn_of_wp_marks Try.func18 rfl trivial ?_ rfl
  simp only [Try.ntmps18, List.size_toArray, List.length_cons, List.length_nil, Nat.reduceAdd, Nat.reduceSub, Array.replicate_succ, Array.replicate_zero, List.push_toArray, List.append_toArray, List.nil_append, List.cons_append]
  gi_wp2_with fail
  refine ⟨trivial, (callsIn_wide.2 (made_any g t _ k0)).mono ?_⟩
  rintro e w1 ⟨rfl, rfl⟩
  gi_wp2_with fail
  have hTL : TLow w.heap.size (w.alloc (.cells #[.slice none 0 0] 26)) t st.nodes := by
    have hb0 : Below w.heap.size w (w.alloc (.cells #[.slice none 0 0] 26)) := (Below.refl _ w).alloc (Nat.le_refl _) _
    refine TLow.below ?_ hb0
    obtain ⟨an, cn, af, cf, q1, q2, _⟩ := ht
    obtain ⟨bn, cur, rfl, _, hbn, hcs⟩ := q2.at (Nat.lt_of_le_of_lt (Nat.zero_le _) (hR.lt _ _ _ hR.root))
    exact ⟨bn, cn, heap_lt q1, heap_lt hbn, (tree_cells q1).1, fun i hi j v hv => hcs _ _ (by rw [nodesX_at st.nodes i j hi (List.getElem?_eq_some_iff.1 hv).1]; exact hv)⟩
  have hI0 : AllI w.heap.size w.heap.size w [] (w.alloc (.cells #[.slice none 0 0] 26)) := ⟨none, 0, heap_alloc_new w _, World.ownsRow_nil _ _ _ _, (Below.refl _ w).alloc (Nat.le_refl _) _⟩
  refine range_mv rfl h1 (gf := 27) (fst := #[.pointer (some ⟨t, 0, none⟩)]) rfl trivial (enters_of Try.func27 (by kernel_rfl) rfl)
    (each_yields Fence.wide rfl trivial trivial rfl (n - 1) w.heap.size t st rs pl hR hf _ (by simp) hTL) (fun h k => h.trans k)
    (fun W l o o' hl ho hcl => ⟨(Below.refl _ W).grown (grownBy_putObj' W l o') (by have := heap_lt ho; simp at hl; omega) (fun k e => by cases e; simp at hl; omega), fun b cur hb => (World.putObj_heap_other (fun e => by subst e; rw [hb] at ho; cases ho; cases hcl)).trans hb⟩)
    (fun _ => rfl) (AllI w.heap.size w.heap.size w) (AllI.own (by simp) (Nat.le_refl _)) hI0 ?round ?done
  case round =>
    intro l pre x W K hl hi hlen hK
    clear hI0 hTL k1 k0 ht h
    obtain ⟨ra, rb, ro⟩ := x
    unfold Rt.agg at *
    dsimp only at *
    obtain ⟨ao, cap, b1, b2, b3⟩ := hi
    have hi : AllI w.heap.size w.heap.size w pre W := ⟨ao, cap, b1, b2, b3⟩
    have hIo := AllI.own (base := w.heap.size) (b := w.heap.size) (w0 := w) (B := w.heap.size + 1) (by omega) (Nat.le_refl _)
    simp only [World.size_alloc] at hl hK
    gi_wp2_with fail
    refine hK _ _ ((KeepsOthers.alloc _ _).from _) ⟨(Below.refl _ W).alloc b3.size _, fun b cur hb => (Below.heap_alloc _ _ _ (heap_lt hb)).trans hb⟩ ?_
    intro o o' ho hoc hoc'
    obtain ⟨ao2, cap2, e1, e2, e3⟩ := hIo.putObj o' (hIo.alloc (.cells #[.int .u32 ra, .int .i64 rb, .int .i64 ro] 31) hi) hl ho hoc
    have hr := RBlk.new W ⟨ra, rb, ro⟩
    have hrl : W.heap.size ≠ l := fun e => by subst e; rw [hr] at ho; cases ho; cases hoc
    have hr3 : RBlk ((W.alloc (.cells #[.int .u32 ra, .int .i64 rb, .int .i64 ro] 31)).putObj l o') W.heap.size ⟨ra, rb, ro⟩ := (World.putObj_heap_other (fun e => hrl (by omega))).trans hr
    have hlen2 : pre.length ≤ 900000 := Nat.le_trans (Nat.le_of_lt hlen) (Nat.le_trans (Nat.le_of_eq (walk_all hR hf).len) (by omega))
    generalize hW2 : ((W.alloc (.cells #[.int .u32 ra, .int .i64 rb, .int .i64 ro] 31)).putObj l o') = W2 at *
    have hbs2 : w.heap.size ≤ W2.heap.size := e3.size
    obtain ⟨ao3, cap3, w3, hrun, hown3, hc3, hn3⟩ := append_route w.heap.size ao2 cap2 pre ⟨ra, rb, ro⟩ W2 e2 hlen2 hbs2
    have c0 := (cell_of_row W2 w.heap.size 0 _ _ (0, 0) e1).trans rfl
    obtain ⟨r0, r1, r2⟩ := hr3.cells
    have hbox3 : w3.heap[w.heap.size]? = some (.cells #[.slice ao2 pre.length cap2] 26 (0, 0)) := (hc3.block _ (heap_lt e1) (fun hq => by
      obtain ⟨cur, hk⟩ := Own.isE e2 _ hq
      rw [e1] at hk
      cases hk)).trans e1
    have c3 := (cell_of_row w3 w.heap.size 0 _ _ (0, 0) hbox3).trans rfl
    have z3 := frozen_of_row w3 w.heap.size 0 _ _ hbox3
    have hbox5 := heap_setCell_same w3 w.heap.size 0 _ _ (.slice ao3 (pre.length + 1) cap3) hbox3
    have hkf : KeepsFrom (w.heap.size + 1) W2 (w3.setCell ⟨w.heap.size, 0, none⟩ (.slice ao3 (pre.length + 1) cap3)) := ⟨by simpa [World.setCell] using hc3.size, fun k o hk ho hcl => by
      rw [heap_setCell_other _ _ _ _ (by show k ≠ w.heap.size; omega), hc3.block k (heap_lt ho) (fun hq => by
        obtain ⟨cur, hk'⟩ := Own.isE e2 _ hq
        rw [ho] at hk'
        cases hk'
        cases hcl)]
      exact ho⟩
    have hkn : KeepN w.heap.size W2 (w3.setCell ⟨w.heap.size, 0, none⟩ (.slice ao3 (pre.length + 1) cap3)) := by
      have hb3 : Below w.heap.size W2 w3 := ⟨hc3.os, hc3.tape, hc3.output, hc3.size, fun k hk => hc3.block k (by omega) (fun hq => by have := Own.low e2 k hq; omega)⟩
      refine ⟨hb3.setCell (p := ⟨w.heap.size, 0, none⟩) (Nat.le_refl _) _, fun b cur hb => ?_⟩
      have hne : b ≠ w.heap.size := fun e => by subst e; rw [e1] at hb; cases hb
      rw [heap_setCell_other _ _ _ _ (by show b ≠ w.heap.size; exact hne), hc3.block b (heap_lt hb) (fun hq => by
        obtain ⟨cur', hk'⟩ := Own.isE e2 _ hq
        rw [hb] at hk'
        cases hk')]
      exact hb
    have hai : AllI w.heap.size w.heap.size w (pre ++ [⟨ra, rb, ro⟩]) (w3.setCell ⟨w.heap.size, 0, none⟩ (.slice ao3 (pre.length + 1) cap3)) := by
      refine ⟨ao3, cap3, ?_, ?_, e3.trans hkn.1⟩
      · rw [hbox5, show (pre ++ [(⟨ra, rb, ro⟩ : Rt)]).length = pre.length + 1 by simp]
        rfl
      · refine World.ownsRow.kept (row := some w.heap.size) hown3 ⟨rfl, rfl, rfl, by simp [World.setCell], fun k _ hk => heap_setCell_other _ _ _ _ (fun e => hk (by rw [e]))⟩ ?_
        cases hq : Value.ownBlock (.slice ao3 (pre ++ [(⟨ra, rb, ro⟩ : Rt)]).length cap3) with
        | none => simp
        | some k =>
          obtain ⟨cur, hk⟩ := Own.isE hown3 k hq
          exact .inr fun e => by
            have e' : k = w.heap.size := by simpa using e
            subst e'
            rw [hbox3] at hk
            cases hk
    have Hrun := Lib.hid hrun
    have HKF := Lib.hid hkf
    have HKN := Lib.hid hkn
    have HAI := Lib.hid hai
    clear hrun hown3 hc3 hn3 hbox5 hkf hkn hai hbox3 e2 e3 hK hr3 hr hi
    gi_wp2_with (gi_at_builtin; refine listAppendIn rfl _ _ _ _ rfl _ _ rfl rfl _ _ Hrun.out ?_)
    exact ⟨HKF.out, HKN.out, HAI.out⟩
  case done =>
    rintro D xs W hD hxs ⟨ao, cap, b1, b2, b3⟩ hD2
    clear hI0 hTL k1 k0 ht h
    have c0 : W.cell? ⟨w.heap.size, 0, none⟩ = some (.slice ao xs.length cap) := (cell_of_row W _ 0 _ _ (0, 0) b1).trans rfl
    gi_wp2_with fail
    refine ⟨by simp, .inl ⟨_, _, rfl, run_takeDeferred hD2, ?_⟩⟩
    refine ⟨_, by simp [results, Try.results18, go_sem]; rfl, ?_⟩
    exact ⟨ao, cap, xs, hxs, rfl, ownsRow_putObj b2 _ hD2 rfl, b3.trans (belowK_b (w := w) (Nat.le_refl _) W D _ _ (by simp at hD; omega) hD2 rfl rfl)⟩
end Go.Proofs.Ytpepjmcglglepaa
