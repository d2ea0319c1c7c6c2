/- The walk of what takes a place for a node. -/
import Derived.Test.YtpepjmcglglepaaTrFind
namespace Go.Proofs.Ytpepjmcglglepaa
open Go.RowKit
set_option maxRecDepth 100000
set_option linter.unusedVariables false
open R

theorem Try.info_node : (Try.prog.info? 59).map (fun i => (i.zero, i.size, i.bytes)) = some (some (.agg #[.int .i64 0, .int .i64 0, .bool false, .int .u32 0, .int .i64 0, .int .i64 0]), 6, 48) := by kernel_rfl
theorem Ch.set {X : Nat → Prop} (w : World) (b o : Nat) (v : Value) (h : X b) : Ch X w (w.setCell ⟨b, o, none⟩ v) :=
  ⟨rfl, rfl, rfl, by simp [World.setCell], fun k _ hk => Below.heap_setCell _ _ _ _ (fun e => hk (by rw [e]; exact h))⟩
theorem Ch.alloc {X : Nat → Prop} (w : World) (o : Obj) : Ch X w (w.alloc o) := Ch.ofBelow ((Below.refl _ w).alloc (Nat.le_refl _) o) X
theorem Ch.grown {X : Nat → Prop} {w w' : World} {row : Option Nat} (h : w.grownBy w' row) (hr : ∀ k, row = some k → X k) : Ch X w w' :=
  ⟨h.os, h.tape, h.output, h.size, fun k hk hn => h.block k hk fun e => hn (hr k e.symm)⟩
/-- What has grown, and what may have changed. -/
def Up (X : Nat → Prop) (w w' : World) : Nat → Prop := fun k => X k ∨ (w.heap.size ≤ k ∧ k < w'.heap.size)
theorem Own.pop {base : Nat} {e : TypeId} {ao : Option Addr} {cap n : Nat} {xs : List Value} {w : World} (h : Own base e 1 ao cap (n + 1) xs w) : Own base e 1 ao cap n (xs.take n) w ∧ n ≤ cap := by
  rcases h with ⟨h1, ⟨hv, hn⟩ | ⟨g, cap', cur, hv, hb, hg, hnc, hcm, hcs, htk⟩⟩
  · omega
  · have hc : cap = cap' := by simpa using congrArg (fun v => match v with | .slice _ _ c => c | _ => 0) hv
    have ha : ao = some ⟨g, 0, none⟩ := by simpa using congrArg (fun v => match v with | .slice a _ _ => a | _ => none) hv
    subst hc ha
    refine ⟨⟨by rw [List.length_take, h1]; omega, .inr ⟨g, cap, cur, rfl, hb, hg, by omega, hcm, hcs, ?_⟩⟩, by omega⟩
    rw [← htk, List.take_take]
    congr 1
    omega
theorem tree_cells {w : World} {t : Nat} {v0 v1 v2 : Value} (h : w.heap[t]? = some (.cells #[v0, v1, v2] 53 (0, 0))) : w.cell? ⟨t, 0, none⟩ = some v0 ∧ w.cell? ⟨t, 1, none⟩ = some v1 ∧ w.cell? ⟨t, 2, none⟩ = some v2 ∧ ∀ o, w.frozen? ⟨t, o, none⟩ = false :=
  ⟨(cell_of_row w t 0 _ _ (0, 0) h).trans rfl, (cell_of_row w t 1 _ _ (0, 0) h).trans rfl, (cell_of_row w t 2 _ _ (0, 0) h).trans rfl, fun o => by simp [World.frozen?, h]⟩

set_option maxHeartbeats 2000000 in
theorem take_new (X : Nat → Prop) (t : Nat) (st : St) (w : World) (h : TreeAt X w t st) (hf : st.free = []) (hl : st.nodes.length ≤ 900000) :
    Calls Try.prog 22 #[.pointer (some ⟨t, 0, none⟩)] w fun e w' => e = .returned (.int .i64 (st.nodes.length : Nat)) ∧ TreeAt (Up X w w') w' t { st with nodes := st.nodes ++ [zN] } ∧ Ch X w w' := by
  obtain ⟨an, cn, af, cf, h1, h2, h3, h4, h5, h6⟩ := h
  rw [hf] at h1
  simp only [List.length_nil] at h1
  have ht := heap_lt h1
  obtain ⟨c0, c1, c2, hfz⟩ := tree_cells h1
  -- the append
  obtain ⟨ao', cap', w3, hrun, hown3, hg3, hne3⟩ := Own.app1 59 50 _ 6 48 Try.underlying50 Try.info_node rfl (by omega) 0 an cn st.nodes.length (nodesX st.nodes) (w.alloc (.cells #[.int .i64 0, .int .i64 0, .bool false, .int .u32 0, .int .i64 0, .int .i64 0] 59)) (World.ownsRow.alloc h2 _) (Nd.v zN) rfl (by intro u hu; revert hu; show u ∈ [_, _, _, _, _, _] → _; simp only [List.mem_cons, List.not_mem_nil, or_false]; rintro (rfl | rfl | rfl | rfl | rfl | rfl) <;> rfl) w.heap.size (cells_new w (Nd.v zN) 59) 50 (by omega) (Nat.zero_le _)
  have hc3 : Ch X w w3 := (Ch.alloc w (.cells #[.int .i64 0, .int .i64 0, .bool false, .int .u32 0, .int .i64 0, .int .i64 0] 59)).trans (Ch.grown (X := X) hg3 fun k hk => h5 k hk) fun _ hk _ => hk
  have ht3 : w3.heap[t]? = some (.cells #[.slice an st.nodes.length cn, .slice af 0 cf, .int .i64 st.count] 53 (0, 0)) :=
    (hg3.block t (by simp; omega) (fun e => h2.away h1 (by intro cur h; cases h) e.symm)).trans ((Below.heap_alloc _ _ _ ht).trans h1)
  obtain ⟨d0, d1, d2, hfz3⟩ := tree_cells ht3
  have hf0 := hfz3 0
  have hF : Hid (TreeAt (Up X w (w3.setCell ⟨t, 0, none⟩ (.slice ao' (st.nodes.length + 1) cap'))) (w3.setCell ⟨t, 0, none⟩ (.slice ao' (st.nodes.length + 1) cap')) t { st with nodes := st.nodes ++ [zN] } ∧ Ch X w (w3.setCell ⟨t, 0, none⟩ (.slice ao' (st.nodes.length + 1) cap'))) := Lib.hid (by
    have hcs := Ch.set (X := fun k => k = t) w3 t 0 (.slice ao' (st.nodes.length + 1) cap') rfl
    refine ⟨⟨ao', cap', af, cf, ?_, ?_, ?_, .inl h4, fun k hk => ?_, fun k hk => .inl (h6 k (by rw [hf] at hk ⊢; exact hk))⟩, hc3.trans (Ch.set (X := X) w3 t 0 _ h4) fun _ hk _ => hk⟩
    · rw [set_row ht3, hf]
      simp
    · have := hcs.own hown3 fun g hg e => by
        subst e
        exact hown3.away ht3 (by intro cur h; cases h) hg
      rw [show (st.nodes ++ [zN]).length = st.nodes.length + 1 by simp, nodesX_app]
      exact this
    · have h3' : Own 0 3 1 af cf st.free.length (natsX st.free) w3 := by
        refine Ch.own (Ch.grown (X := fun k => Value.ownBlock (.slice an st.nodes.length cn) = some k) hg3 fun k hk => hk) (World.ownsRow.alloc h3 _) fun g hg e => ?_
        obtain ⟨cur, hcur⟩ := h2.isE g e
        exact h3.away hcur (by intro c h; cases h) hg
      exact hcs.own h3' fun g hg e => by
        subst e
        exact h3'.away ht3 (by intro cur h; cases h) hg
    · rw [show (st.nodes ++ [zN]).length = st.nodes.length + 1 by simp] at hk
      rcases hne3 k hk with e | e
      · exact .inl (h5 k e)
      · obtain ⟨cur, hcur⟩ := hown3.isE k hk
        have := heap_lt hcur
        exact .inr ⟨by simp at e; omega, by simp [World.setCell]; exact this⟩)
  have Hrun := Lib.hid hrun
  have hlen3 : (w.alloc (.cells #[.int .i64 0, .int .i64 0, .bool false, .int .u32 0, .int .i64 0, .int .i64 0] 59)).heap.size ≤ w3.heap.size := hg3.size
  have ht3l := heap_lt ht3
  clear hrun hown3 hg3 hne3 hc3 h1 h2 h3 h4 h5 h6 hfz hfz3 hlen3 ht3
  go_enter Try.func22, Try.ntmps22
  go_wp2_with (at_builtin; refine listAppend rfl _ _ _ _ rfl _ _ rfl rfl _ _ Hrun.out ?_)
  go_ret
  exact ⟨ret_int (by omega), hF.out⟩

set_option maxHeartbeats 2000000 in
theorem take_old (X : Nat → Prop) (t : Nat) (st : St) (w : World) (h : TreeAt X w t st) (n : Nat) (hf : st.free.length = n + 1) (hl : n ≤ 900000) :
    Calls Try.prog 22 #[.pointer (some ⟨t, 0, none⟩)] w fun e w' => e = .returned (.int .i64 (st.free.getD n 0 : Nat)) ∧ TreeAt (Up X w w') w' t { st with free := st.free.take n } ∧ Ch X w w' := by
  obtain ⟨an, cn, af, cf, h1, h2, h3, h4, h5, h6⟩ := h
  rw [hf] at h1 h3 h6
  have ht := heap_lt h1
  obtain ⟨c0, c1, c2, hfz⟩ := tree_cells h1
  have hf0 := hfz 1
  obtain ⟨bf, cur, e1, _, hbf, hcells⟩ := h3.at (by omega)
  subst e1
  have q0 := hcells n _ (natsX_get st.free n (by omega))
  obtain ⟨hpop, hcap⟩ := h3.pop
  have hF : Hid (TreeAt (Up X w (w.setCell ⟨t, 1, none⟩ (.slice (some ⟨bf, 0, none⟩) n cf))) (w.setCell ⟨t, 1, none⟩ (.slice (some ⟨bf, 0, none⟩) n cf)) t { st with free := st.free.take n } ∧ Ch X w (w.setCell ⟨t, 1, none⟩ (.slice (some ⟨bf, 0, none⟩) n cf))) := Lib.hid (by
    have hcs := Ch.set (X := fun k => k = t) w t 1 (.slice (some ⟨bf, 0, none⟩) n cf) rfl
    have hln : (st.free.take n).length = n := by rw [List.length_take]; omega
    refine ⟨⟨an, cn, some ⟨bf, 0, none⟩, cf, ?_, ?_, ?_, .inl h4, fun k hk => .inl (h5 k hk), fun k hk => ?_⟩, Ch.set (X := X) w t 1 _ h4⟩
    · rw [set_row h1]
      simp [hln]
    · exact hcs.own h2 fun g hg e => by
        subst e
        exact h2.away h1 (by intro cur h; cases h) hg
    · have h3' : Own 0 3 1 (some ⟨bf, 0, none⟩) cf (st.free.take n).length (natsX (st.free.take n)) w := by
        rw [hln, show natsX (st.free.take n) = (natsX st.free).take n from List.map_take]
        exact hpop
      exact hcs.own h3' fun g hg e => by
        subst e
        exact h3'.away h1 (by intro cur h; cases h) hg
    · refine .inl (h6 k ?_)
      simpa [Value.ownBlock] using hk)
  generalize st.free.getD n 0 = x at *
  clear h2 h3 h4 h5 h6 hpop hcells hbf h1 hfz
  go_enter Try.func22, Try.ntmps22
  go_wp2
  go_ret
  exact ⟨rfl, hF.out⟩

theorem take_any (X : Nat → Prop) (t : Nat) (st : St) (w : World) (h : TreeAt X w t st) (hl : st.nodes.length ≤ 900000) (hf : st.free.length ≤ 900000) :
    Calls Try.prog 22 #[.pointer (some ⟨t, 0, none⟩)] w fun e w' => e = .returned (.int .i64 (takeIx st : Nat)) ∧ TreeAt (Up X w w') w' t (takeSt st) ∧ Ch X w w' := by
  unfold takeIx takeSt
  by_cases hf0 : st.free = []
  · rw [if_pos hf0, if_pos hf0]
    exact take_new X t st w h hf0 hl
  · rw [if_neg hf0, if_neg hf0]
    have : 0 < st.free.length := List.length_pos_iff.2 hf0
    exact take_old X t st w h (st.free.length - 1) (by omega) (by omega)
#print axioms take_any
end Go.Proofs.Ytpepjmcglglepaa
