/- The walk of what is found of an address. -/
import Derived.Test.YtpepjmcglglepaaTrFind
import Derived.Deep.Light
namespace Go.Proofs.Ytpepjmcglglepaa
open Go.RowKit
set_option maxRecDepth 100000
set_option linter.unusedVariables false
open R

theorem cut32 (a : Nat) (w : World) (ha : a < 4294967296) : Calls Try.prog 25 #[.int .u32 a, .int .i64 32] w fun e w' => e = .returned (.agg #[.int .u32 a, .int .i64 32]) ∧ Below w.heap.size w w' := by
  have h := cut_any a 32 w ha
  rw [show A.clamp 32 = 32 from rfl, show A.top a 32 = a by unfold A.top; simp] at h
  exact h
theorem run_op_len {P : Program} {o : Oper} {ev : Operand → Value} {w : World} {x : Operand} {t e : TypeId} {ao : Option Addr} {n cap : Nat} (hu : P.underlying t = some (.slice e)) (ho : o.op = Op.call { callee := Callee.builtin Builtin.len, args := #[x], argTypes := #[t] }) (hx : ev x = .slice ao n cap) : (execOp ev o).run P w = .ok (.value (.int .i64 n)) w := by
  simp [execOp, ho, resolve, invoke, builtin, hx, Builtin.len_, Result.andThen, run_underlying hu]
  rfl
/-- A slice of the places along an address. -/
def PathV (B : Nat) (pl : Nat → Nat → Option Nat) (a n : Nat) (v : Value) (w : World) : Prop := ∃ ao cap ps, v = .slice ao ps.length cap ∧ PRow B w ao ps ∧ Path pl a n ps
theorem PathV.keep {B : Nat} {pl : Nat → Nat → Option Nat} {a n : Nat} (v : Value) (w w' : World) (h : PathV B pl a n v w) (hb : Below w.heap.size w w') : PathV B pl a n v w' := by
  obtain ⟨ao, cap, ps, h1, h2, h3⟩ := h
  exact ⟨ao, cap, ps, h1, h2.below hb, h3⟩
def LenV (pl : Nat → Nat → Option Nat) (a n : Nat) (v : Value) (w : World) : Prop := ∃ ps : List Nat, v = .int .i64 ps.length ∧ Path pl a n ps

set_option maxHeartbeats 2000000 in
theorem Find_any (X : Nat → Prop) (g : Nat) (st : St) (rs : List Rt) (pl : Nat → Nat → Option Nat) (a : Nat) (w : World) (h : TrieAt X w g st) (hR : Rep st rs pl) (ha : a < 4294967296) (hl : st.nodes.length ≤ 1000000) :
    Calls Try.prog 12 #[.pointer (some ⟨g, 0, none⟩), .int .u32 a] w fun e w' => ∃ r ok, e = .returned (.tuple #[Rt.agg r, .bool ok]) ∧ IsFind rs a r ok ∧ Below w.heap.size w w' := by
  obtain ⟨W0, hW0⟩ : ∃ W0, W0 = ((w.alloc (.cells #[.int .u32 0, .int .i64 0, .int .i64 0] 31)).alloc (.cells #[.int .i64 0, .int .i64 0, .bool false, .int .u32 0, .int .i64 0, .int .i64 0] 59)) := ⟨_, rfl⟩
  have hb0 : Below w.heap.size w W0 := by rw [hW0]; exact ((Below.refl _ w).alloc (Nat.le_refl _) _).alloc (by simp) _
  have hk := h.below hb0
  obtain ⟨t, k0, _, ht⟩ := (h.below ((Below.refl _ w).alloc (Nat.le_refl _) (.cells #[.int .u32 0, .int .i64 0, .int .i64 0] 31))).ptr
  obtain ⟨t', k0', _, ht'⟩ := hk.ptr
  obtain rfl : t' = t := by
    have e1 : W0.cell? ⟨g, 0, none⟩ = some (.pointer (some ⟨t, 0, none⟩)) := by
      rw [hW0, World.cell?_of_block (Below.heap_alloc _ _ g (World.block_lt_of_cell? _ _ k0))]; exact k0
    rw [k0'] at e1
    simpa using e1
  have HT := Lib.hid ht'
  have HR := Lib.hid hR
  have Ha := Lib.hid ha
  have HB : Hid (RBlk W0 w.heap.size zR) := Lib.hid (by
    rw [hW0]
    exact (Below.heap_alloc _ _ _ (by simp)).trans (RBlk.new w zR))
  have HN : Hid (NBlk W0 (w.heap.size + 1) zN) := Lib.hid (by
    rw [hW0]
    have := NBlk.new (w.alloc (.cells #[.int .u32 0, .int .i64 0, .int .i64 0] 31)) zN
    rwa [show (w.alloc (.cells #[.int .u32 0, .int .i64 0, .int .i64 0] 31)).heap.size = w.heap.size + 1 from by simp] at this)
  have hW0s : W0.heap.size = w.heap.size + 2 := by rw [hW0]; simp
  have HW := Lib.hid hW0
  have HTr0 := Lib.hid (by obtain ⟨t2, e1, _, e2⟩ := h.ptr; exact (show TreeAt (fun k => X k ∧ k ≠ g) w t' st from by
    have e3 := (hb0.cell (p := ⟨g, 0, none⟩) (World.block_lt_of_cell? _ _ e1)).trans e1
    rw [k0'] at e3
    obtain rfl : t' = t2 := by simpa using e3
    exact e2))
  have K00 : Hid (w.cell? ⟨g, 0, none⟩ = some (.pointer (some ⟨t', 0, none⟩))) := Lib.hid (by obtain ⟨t2, e1, _, e2⟩ := h.ptr; exact (hb0.cell (p := ⟨g, 0, none⟩) (World.block_lt_of_cell? _ _ e1)).symm.trans k0')
  clear h ht ht' hR ha hk hW0
  go_enter Try.func12, Try.ntmps12
  go_wp2_with fail
  refine (made_any g t' _ k0).mono ?_
  rintro e w1 ⟨rfl, rfl⟩
  go_wp2
  rw [← HW.out]
  clear k0
  refine region_gen (VG W0.heap.size [.val (.pointer (some ⟨g, 0, none⟩)), .val (.pointer (some ⟨g, 0, none⟩)), .val (.pointer (some ⟨g, 0, none⟩)), .val (.pointer (some ⟨t', 0, none⟩)), .val (.int .u32 a), .val (.agg #[.int .u32 a, .int .i64 32]), .pr (PathV W0.heap.size pl a 32) PathV.keep, .pr (LenV pl a 32) (fun _ _ _ h _ => h), .val (.int .i64 0)]) (BS W0) (by kernel_rfl) (by kernel_rfl) (Below.refl _ _).drew ⟨?_, ?_, ?_, ?_, ?_, ?_, ?_, ?_, ?_, trivial⟩ ?_
  · go_light; intro listed a' w' hs hS hun hdep
    have e0 : a'.eval (.tmp 0) = .pointer (some ⟨g, 0, none⟩) := (hs.out 0 (by kernel_rfl)).trans (rfl)
    refine g_val (.pointer (some ⟨g, 0, none⟩)) hS rfl ?_ rfl
    have hcn := BigFrame.eval_const a'; have hfn := BigFrame.eval_func a'; clear hs hdep; generalize a'.eval = ev at *; go_simp
  · go_light; intro listed a' w' hs hS hun hdep
    have e14 : a'.eval (.tmp 14) = .pointer (some ⟨g, 0, none⟩) := hs.eval 0 _ 14 rfl (hdep ⟨0, .data⟩ (by simp) rfl) rfl
    refine g_val (.pointer (some ⟨g, 0, none⟩)) hS rfl ?_ rfl
    have hcn := BigFrame.eval_const a'; have hfn := BigFrame.eval_func a'; clear hs hdep; generalize a'.eval = ev at *; go_simp
  · go_light; intro listed a' w' hs hS hun hdep
    have e15 : a'.eval (.tmp 15) = .pointer (some ⟨g, 0, none⟩) := hs.eval 1 _ 15 rfl (hdep ⟨1, .data⟩ (by simp) rfl) rfl
    refine g_val (.pointer (some ⟨g, 0, none⟩)) hS rfl ?_ rfl
    have hcn := BigFrame.eval_const a'; have hfn := BigFrame.eval_func a'; clear hs hdep; generalize a'.eval = ev at *; go_simp
  · go_light; intro listed a' w' hs hS hun hdep
    have e16 : a'.eval (.tmp 16) = .pointer (some ⟨g, 0, none⟩) := hs.eval 2 _ 16 rfl (hdep ⟨2, .data⟩ (by simp) rfl) rfl
    have kk : w'.cell? ⟨g, 0, none⟩ = some (.pointer (some ⟨t', 0, none⟩)) := (Below.cell hS (p := ⟨g, 0, none⟩) (World.block_lt_of_cell? _ _ k0')).trans k0'
    refine g_val (.pointer (some ⟨t', 0, none⟩)) hS rfl ?_ rfl
    have hcn := BigFrame.eval_const a'; have hfn := BigFrame.eval_func a'; clear hs hdep; generalize a'.eval = ev at *; go_simp
  · go_light; intro listed a' w' hs hS hun hdep
    have e1 : a'.eval (.tmp 1) = .int .u32 a := (hs.out 1 (by kernel_rfl)).trans (rfl)
    refine g_val (.int .u32 a) hS rfl ?_ rfl
    have hcn := BigFrame.eval_const a'; have hfn := BigFrame.eval_func a'; clear hs hdep; generalize a'.eval = ev at *; go_simp
  · go_light; intro listed a' w' hs hS hun hdep
    have e18 : a'.eval (.tmp 18) = .int .u32 a := hs.eval 4 _ 18 rfl (hdep ⟨4, .data⟩ (by simp) rfl) rfl
    refine g_call 25 #[.int .u32 a, .int .i64 32] hS rfl ?_ ?_
    · have hcn := BigFrame.eval_const a'; have hfn := BigFrame.eval_func a'; clear hs hdep; generalize a'.eval = ev at *; go_simp
    · exact c_val (cut32 a w' Ha.out) rfl
  · go_light; intro listed a' w' hs hS hun hdep
    have e17 : a'.eval (.tmp 17) = .pointer (some ⟨t', 0, none⟩) := hs.eval 3 _ 17 rfl (hdep ⟨3, .data⟩ (by simp) rfl) rfl
    have e19 : a'.eval (.tmp 19) = .agg #[.int .u32 a, .int .i64 32] := hs.eval 5 _ 19 rfl (hdep ⟨5, .data⟩ (by simp) rfl) rfl
    refine g_call 21 #[.pointer (some ⟨t', 0, none⟩), .agg #[.int .u32 a, .int .i64 32]] hS rfl ?_ ?_
    · have hcn := BigFrame.eval_const a'; have hfn := BigFrame.eval_func a'; clear hs hdep; generalize a'.eval = ev at *; go_simp
    · refine c_pr ((path_any _ t' st rs pl a 32 w' (HT.out.below hS) HR.out (Nat.le_refl _) Ha.out hl).mono ?_) rfl
      rintro e w'' ⟨ao, cap, ps, rfl, h1, h2, h3⟩
      exact ⟨_, rfl, ⟨ao, cap, ps, rfl, h1.mono (Below.size hS), h2⟩, h3⟩
  · go_light; intro listed a' w' hs hS hun hdep
    have r20 : PathV W0.heap.size pl a 32 (a'.eval (.tmp 20)) w' := hs.eval 6 _ 20 rfl (hdep ⟨6, .data⟩ (by simp) rfl) rfl
    obtain ⟨ao, cap, ps, e20, h1, h2⟩ := r20
    exact g_val (.int .i64 ps.length) hS rfl (run_op_len Try.underlying51 rfl e20) ⟨ps, rfl, h2⟩
  · go_light; intro listed a' w' hs hS hun hdep
    refine g_val (.int .i64 0) hS rfl ?_ rfl
    have hcn := BigFrame.eval_const a'; have hfn := BigFrame.eval_func a'; clear hs hdep; generalize a'.eval = ev at *; go_simp
  · intro vs w3 hlen hV listed hall hS
    obtain ⟨v0, v1, v2, v3, v4, v5, v6, v7, v8, rfl⟩ := vs_9 vs (hlen.trans rfl)
    have q0 : v0 = .pointer (some ⟨g, 0, none⟩) := hV 0 _ rfl
    have q1 : v1 = .pointer (some ⟨g, 0, none⟩) := hV 1 _ rfl
    have q2 : v2 = .pointer (some ⟨g, 0, none⟩) := hV 2 _ rfl
    have q3 : v3 = .pointer (some ⟨t', 0, none⟩) := hV 3 _ rfl
    have q4 : v4 = .int .u32 a := hV 4 _ rfl
    have q5 : v5 = .agg #[.int .u32 a, .int .i64 32] := hV 5 _ rfl
    have p6 : PathV W0.heap.size pl a 32 v6 w3 := hV 6 _ rfl
    have p7 : LenV pl a 32 v7 w3 := hV 7 _ rfl
    have q8 : v8 = .int .i64 0 := hV 8 _ rfl
    obtain ⟨ao, cap, ps, q6, hrow, hpath⟩ := p6
    obtain ⟨ps', q7, hpath'⟩ := p7
    obtain rfl := hpath'.one hpath
    have hbel : Below W0.heap.size W0 w3 := hS
    subst q0 q1 q2 q3 q4 q5 q6 q7 q8
    clear hV hS hall hpath' hlen
    clear listed
    simp only [lays, Act.put, List.setIfInBounds_toArray, List.set_cons_zero, List.set_cons_succ]
    have HT3 := Lib.hid (HT.out.below hbel)
    have HB3 := Lib.hid (HB.out.below hbel)
    have HN3 := Lib.hid (HN.out.below hbel)
    have k3 := (Below.cell hbel (p := ⟨g, 0, none⟩) (World.block_lt_of_cell? _ _ k0')).trans k0'
    have hbw3 := hb0.trans (hbel.mono hb0.size)
    have HP := Lib.hid hpath
    obtain ⟨bp, rfl, hbp0, hbp, hrow⟩ := hrow
    have HTr := HTr0
    have K0 := K00
    have Hlow : Hid (w.heap.size + 1 < bp) := Lib.hid (by omega)
    clear HT HB HN k0' hb0 hbel hpath HW HTr0 K00
    generalize ps' = ps at *
    have hpos := HP.out.pos
    have hpl : ps.length ≤ 33 := HP.out.le
    clear hW0s hbp0
    have HBest := Lib.hid (best_find HR.out HP.out)
    have hbp1 : w.heap.size + 1 < bp := by first | omega | exact Hlow.out
    go_wp2
    go_loopw [22] (fun i wr => ∃ (k : Nat) (L : Nd), k ≤ ps.length ∧ i = .int .i64 k ∧ NBlk wr (w.heap.size + 1) L ∧ Hid (best st.nodes ps k = (L.r, L.has)) ∧ RBlk wr w.heap.size zR ∧ (∀ k, k < ps.length → wr.cell? ⟨bp, k, none⟩ = some (.int .i64 (ps.getD k 0 : Nat))) ∧ Below w.heap.size w wr ∧ bp < wr.heap.size) (fun i _ => ps.length - (intOf i).toNat)
    case atStart => exact ⟨0, zN, Nat.zero_le _, rfl, HN3.out, Lib.hid rfl, HB3.out, hrow, hbw3, hbp⟩
    case round =>
      clear hrow hbw3 HN3 HB3 hbp HT3 k3
      obtain ⟨k, L, hk, rfl, hL, hbest, hB, hrow, hbw, hbp⟩ := hrel
      have hTr := HTr.out.below hbw
      have k3 := (Below.cell hbw (p := ⟨g, 0, none⟩) (World.block_lt_of_cell? _ _ K0.out)).trans K0.out
      by_cases hkl : k < ps.length
      · have hat := HP.out.at' k hkl
        have hil := HR.out.lt _ _ _ hat
        have q0 := hrow k hkl
        have hkl' : (k : Int) < (ps.length : Int) := by omega
        obtain ⟨bn, cn, af, cf, hr⟩ := hTr.read HR.out.zero
        obtain ⟨n0, n1, n2, n3, n4, n5⟩ := hr.cells hil
        have k4 := hr.c0
        have Hb1 : Hid (best st.nodes ps (k + 1) = if (R.nd st.nodes (ps.getD k 0)).has = true then ((R.nd st.nodes (ps.getD k 0)).r, true) else best st.nodes ps k) := Lib.hid rfl
        generalize ps.getD k 0 = x at *
        have hxl : (x : Int) < (st.nodes.length : Int) := by omega
        generalize R.nd st.nodes x = N at *
        obtain ⟨x0, x1, q, y⟩ := N
        dsimp only at n0 n1 n2 n3 n4 n5 Hb1
        have hlt := heap_lt hL
        clear hr hat hTr
        cases q
        · have Hb2 : Hid (best st.nodes ps (k + 1) = (L.r, L.has)) := Lib.hid (by rw [Hb1.out, if_neg (by simp)]; exact hbest.out)
          have hbn : Below wr.heap.size wr (wr.alloc (.cells #[.int .i64 x0, .int .i64 x1, .bool false, .int .u32 y.a, .int .i64 y.b, .int .i64 y.o] 59)) := (Below.refl _ _).alloc (Nat.le_refl _) _
          have HL1 := Lib.hid (hL.below hbn)
          have HB1 := Lib.hid (hB.below hbn)
          have hbw1 := hbw.trans (hbn.mono hbw.size)
          have HRow1 : Hid (∀ k, k < ps.length → (wr.alloc (.cells #[.int .i64 x0, .int .i64 x1, .bool false, .int .u32 y.a, .int .i64 y.b, .int .i64 y.o] 59)).cell? ⟨bp, k, none⟩ = some (.int .i64 (ps.getD k 0 : Nat))) := Lib.hid fun k hk => (hbn.cell (p := ⟨bp, k, none⟩) hbp).trans (hrow k hk)
          clear hL hB hrow hbw hbn Hb1 hbest
          have hbp2 : bp < (wr.alloc (.cells #[.int .i64 x0, .int .i64 x1, .bool false, .int .u32 y.a, .int .i64 y.b, .int .i64 y.o] 59)).heap.size := by simp; omega
          go_wp2
          go_roundw
          case rel => exact ⟨k + 1, L, by omega, by go_num, HL1.out, Hb2, HB1.out, HRow1.out, hbw1, hbp2⟩
          case measure => simp [intOf]; omega
        · have Hb2 : Hid (best st.nodes ps (k + 1) = (y, true)) := Lib.hid (by rw [Hb1.out, if_pos rfl])
          have hbn : Below wr.heap.size wr (wr.alloc (.cells #[.int .i64 x0, .int .i64 x1, .bool true, .int .u32 y.a, .int .i64 y.b, .int .i64 y.o] 59)) := (Below.refl _ _).alloc (Nat.le_refl _) _
          have HL1 := Lib.hid (hL.below hbn)
          have HB1 := Lib.hid (hB.below hbn)
          have hbw1 := hbw.trans (hbn.mono hbw.size)
          have HRow1 : Hid (∀ k, k < ps.length → (wr.alloc (.cells #[.int .i64 x0, .int .i64 x1, .bool true, .int .u32 y.a, .int .i64 y.b, .int .i64 y.o] 59)).cell? ⟨bp, k, none⟩ = some (.int .i64 (ps.getD k 0 : Nat))) := Lib.hid fun k hk => (hbn.cell (p := ⟨bp, k, none⟩) hbp).trans (hrow k hk)
          have HV1 : Hid (NBlk (wr.alloc (.cells #[.int .i64 x0, .int .i64 x1, .bool true, .int .u32 y.a, .int .i64 y.b, .int .i64 y.o] 59)) wr.heap.size ⟨x0, x1, true, y⟩) := Lib.hid (NBlk.new wr ⟨x0, x1, true, y⟩)
          have hz1 : bp < (wr.alloc (.cells #[.int .i64 x0, .int .i64 x1, .bool true, .int .u32 y.a, .int .i64 y.b, .int .i64 y.o] 59)).heap.size := by simp; omega
          clear hL hB hrow hbw hbn Hb1 hbest
          go_upto_region 9 with fail
          generalize (wr.alloc (.cells #[.int .i64 x0, .int .i64 x1, .bool true, .int .u32 y.a, .int .i64 y.b, .int .i64 y.o] 59)) = W1 at *
          have HL2 : Hid (NBlk (sets6 W1 (w.heap.size + 1) ⟨x0, x1, true, y⟩) (w.heap.size + 1) ⟨x0, x1, true, y⟩) := Lib.hid (HL1.out.set ⟨x0, x1, true, y⟩)
          have HB2 : Hid (RBlk (sets6 W1 (w.heap.size + 1) ⟨x0, x1, true, y⟩) w.heap.size zR) := Lib.hid ((sets6_heap W1 (w.heap.size + 1) ⟨x0, x1, true, y⟩ w.heap.size (by omega)).trans HB1.out)
          have HRow2 : Hid (∀ k, k < ps.length → (sets6 W1 (w.heap.size + 1) ⟨x0, x1, true, y⟩).cell? ⟨bp, k, none⟩ = some (.int .i64 (ps.getD k 0 : Nat))) := Lib.hid fun k hk => (World.cell?_of_block (a := ⟨bp, k, none⟩) (sets6_heap W1 (w.heap.size + 1) ⟨x0, x1, true, y⟩ bp (by omega))).trans (HRow1.out k hk)
          have hbw2 := Lib.hid (sets6_below hbw1 (w.heap.size + 1) ⟨x0, x1, true, y⟩ (by omega))
          have hbp2 : Hid (bp < (sets6 W1 (w.heap.size + 1) ⟨x0, x1, true, y⟩).heap.size) := Lib.hid (by rw [sets6_size]; exact hz1)
          obtain ⟨l0, l1, l2, l3, l4, l5⟩ := HL1.out.cells
          obtain ⟨m0, m1, m2, m3, m4, m5⟩ := HV1.out.cells
          have f0 := HL1.out.free 0
          have f1 := HL1.out.free 1
          have f2 := HL1.out.free 2
          have f3 := HL1.out.free 3
          have f4 := HL1.out.free 4
          have f5 := HL1.out.free 5
          clear k3 k4 q0 n0 n1 n2 n3 n4 n5
          go_wp2
          go_roundw
          case rel => exact ⟨k + 1, ⟨x0, x1, true, y⟩, by omega, by go_num, HL2.out, Hb2, HB2.out, HRow2.out, hbw2.out, hbp2.out⟩
          case measure => simp [intOf]; omega
      · obtain rfl : k = ps.length := by omega
        have hkl' : ¬ (ps.length : Int) < (ps.length : Int) := by omega
        obtain ⟨l0, l1, l2, l3, l4, l5⟩ := hL.cells
        obtain ⟨c0, c1, c2⟩ := hB.cells
        have f0 := hB.free 0
        have f1 := hB.free 1
        have f2 := hB.free 2
        have hlt5 := heap_lt hB
        have hlt6 := heap_lt hL
        have HG : Hid (IsFind rs a L.r L.has) := Lib.hid (by have := HBest.out; rw [hbest.out] at this; exact this)
        clear hTr k3 hrow hB hL hbest HBest HP
        go_wp2
        go_region
        all_goals
          go_wp2
          exact bodyPost_ret (v := .tuple #[Rt.agg L.r, .bool L.has]) (by simp [results, Try.results12, go_sem, c0, c1, c2, Rt.agg]) rfl ⟨L.r, L.has, rfl, HG.out, (((hbw.drew).setCell (Nat.le_refl _) _).setCell (Nat.le_refl _) _).setCell (Nat.le_refl _) _⟩
#print axioms Find_any
end Go.Proofs.Ytpepjmcglglepaa
