/- The walk of what finds a label's number in a table. -/
import Derived.Test.YtdipoaekdafbeaaTbLow
namespace Go.Proofs.Ytdipoaekdafbeaa
open Go.RowKit Go.Maps Go.ChangeMaps
set_option maxRecDepth 100000
set_option linter.unusedVariables false
open T

theorem run_op_lookup {P : Program} {o : Oper} {ev : Operand → Value} {w : World} {t : TypeId} {x y : Operand} {c : Bool} {m k v : Value} (ho : o.op = .lookup t x y c) (hx : ev x = m) (hy : ev y = k) (hr : (Instr.lookup t m k c).run P w = .ok v w) : (execOp ev o).run P w = .ok (.value v) w := by
  unfold execOp
  simp [ho, hx, hy, hr, Result.andThen]
theorem vs11 (vs : List Value) (h : vs.length = 11) : ∃ v0 v1 v2 v3 v4 v5 v6 v7 v8 v9 v10, vs = [v0, v1, v2, v3, v4, v5, v6, v7, v8, v9, v10] := by
  obtain ⟨v0, r0, rfl, h0⟩ := LbLow.vs_cons vs h
  obtain ⟨v1, r1, rfl, h1⟩ := LbLow.vs_cons r0 h0
  obtain ⟨v2, r2, rfl, h2⟩ := LbLow.vs_cons r1 h1
  obtain ⟨v3, r3, rfl, h3⟩ := LbLow.vs_cons r2 h2
  obtain ⟨v4, r4, rfl, h4⟩ := LbLow.vs_cons r3 h3
  obtain ⟨v5, r5, rfl, h5⟩ := LbLow.vs_cons r4 h4
  obtain ⟨v6, r6, rfl, h6⟩ := LbLow.vs_cons r5 h5
  obtain ⟨v7, r7, rfl, h7⟩ := LbLow.vs_cons r6 h6
  obtain ⟨v8, r8, rfl, h8⟩ := LbLow.vs_cons r7 h7
  obtain ⟨v9, r9, rfl, h9⟩ := LbLow.vs_cons r8 h8
  obtain ⟨v10, r10, rfl, h10⟩ := LbLow.vs_cons r9 h9
  obtain rfl := List.eq_nil_of_length_eq_zero h10
  exact ⟨v0, v1, v2, v3, v4, v5, v6, v7, v8, v9, v10, rfl⟩
theorem look_tab {w : World} {ls : Labs} {m k : Nat} (hm : w.ownsMap Try.prog 29 (plainElem Try.prog 3) m k (tabD ls)) (hl : ∀ p ∈ ls, ok p) (hn : ls.Nodup) (z : Int) (n : Nat) (hx : ok (z, n)) :
    (Instr.lookup 76 (.map (some m)) (.agg (L.lv z n)) true).run Try.prog w = .ok (.tuple #[.int .i64 (max (findI ls (z, n)) 0), .bool (decide (0 ≤ findI ls (z, n)))]) w := by
  obtain ⟨v, ps, hrun, hv⟩ := hm.look_ok keyLab Try.underlying76 (zeroInt w) (plainElem_int Try.underlying3 (by decide)) (key_of (z, n) hx)
  obtain ⟨c, rfl, hc, _⟩ := plainElem_int_inv Try.underlying3 hv
  obtain ⟨e1, e2⟩ := findI_tab hl hn (z, n) hx c (congrArg Prod.fst hc)
  rw [hrun, e1, e2]

set_option maxHeartbeats 4000000 in
theorem Find_any (g m cap : Nat) (ls : Labs) (ao : Option Addr) (z : Int) (n : Nat) (w : World) (h : TabR w g ls ao cap m) (hl : ∀ p ∈ ls, ok p) (hnd : ls.Nodup) (hx : ok (z, n)) :
    Calls Try.prog 23 #[.pointer (some ⟨g, 0, none⟩), .agg (L.lv z n)] w fun e w' => e = .returned (.tuple #[.int .i64 (max (findI ls (z, n)) 0), .bool (decide (0 ≤ findI ls (z, n)))]) ∧ Below w.heap.size w w' := by
  have hb0 : Below w.heap.size w (w.alloc (.cells (L.lv z n) 29)) := (Below.refl _ w).alloc (Nat.le_refl _) _
  have HT := Lib.hid (h.below hb0)
  have HL := Lib.hid (LabAt.new w z n)
  have HK := Lib.hid (fun w' (hb : Below (w.alloc (.cells (L.lv z n) 29)).heap.size (w.alloc (.cells (L.lv z n) 29)) w') => look_tab (HT.out.below hb).mp hl hnd z n hx)
  generalize max (findI ls (z, n)) 0 = c at *
  generalize decide (0 ≤ findI ls (z, n)) = q at *
  clear h
  go_enter Try.func23, Try.ntmps23
  go_wp2
  refine region_gen (VG (w.alloc (.cells (L.lv z n) 29)).heap.size [.val (.pointer (some ⟨g, 0, none⟩)), .val (.pointer (some ⟨g, 0, none⟩)), .val (.pointer (some ⟨g, 1, none⟩)), .val (.map (some m)), .val (.agg (L.lv z n)), .val (.tuple #[.int .i64 c, .bool q]), .val (.tuple #[.int .i64 c, .bool q]), .val (.int .i64 c), .val (.bool q), .val (.int .i64 c), .val (.bool q)]) (BS (w.alloc (.cells (L.lv z n) 29))) (by kernel_rfl) (by kernel_rfl) (Below.refl _ _).drew ⟨?_, ?_, ?_, ?_, ?_, ?_, ?_, ?_, ?_, ?_, ?_, trivial⟩ ?_
  · go_light; intro listed a' w' hs hS hun hdep
    have e0 : a'.eval (.tmp 0) = .pointer (some ⟨g, 0, none⟩) := (hs.out 0 (by kernel_rfl)).trans (rfl)
    refine g_val (.pointer (some ⟨g, 0, none⟩)) hS rfl ?_ rfl
    have hcn := BigFrame.eval_const a'; have hfn := BigFrame.eval_func a'; clear hs hdep; generalize a'.eval = ev at *; go_simp
  · go_light; intro listed a' w' hs hS hun hdep
    have e11 : a'.eval (.tmp 11) = .pointer (some ⟨g, 0, none⟩) := hs.eval 0 _ 11 rfl (hdep ⟨0, .data⟩ (by simp) rfl) rfl
    refine g_val (.pointer (some ⟨g, 0, none⟩)) hS rfl ?_ rfl
    have hcn := BigFrame.eval_const a'; have hfn := BigFrame.eval_func a'; clear hs hdep; generalize a'.eval = ev at *; go_simp
  · go_light; intro listed a' w' hs hS hun hdep
    have e12 : a'.eval (.tmp 12) = .pointer (some ⟨g, 0, none⟩) := hs.eval 1 _ 12 rfl (hdep ⟨1, .data⟩ (by simp) rfl) rfl
    refine g_val (.pointer (some ⟨g, 1, none⟩)) hS rfl ?_ rfl
    have hcn := BigFrame.eval_const a'; have hfn := BigFrame.eval_func a'; clear hs hdep; generalize a'.eval = ev at *; go_simp
  · go_light; intro listed a' w' hs hS hun hdep
    have e13 : a'.eval (.tmp 13) = .pointer (some ⟨g, 1, none⟩) := hs.eval 2 _ 13 rfl (hdep ⟨2, .data⟩ (by simp) rfl) rfl
    have kk := (HT.out.below hS).c1
    refine g_val (.map (some m)) hS rfl ?_ rfl
    have hcn := BigFrame.eval_const a'; have hfn := BigFrame.eval_func a'; clear hs hdep; generalize a'.eval = ev at *; go_simp
  · go_light; intro listed a' w' hs hS hun hdep
    have e3 : a'.eval (.tmp 3) = .pointer (some ⟨w.heap.size, 0, none⟩) := (hs.out 3 (by kernel_rfl)).trans (rfl)
    exact g_val (.agg (L.lv z n)) hS rfl (run_op_load_lab rfl e3 (HL.out.below hS HL.out.lt)) rfl
  · go_light; intro listed a' w' hs hS hun hdep
    have e14 : a'.eval (.tmp 14) = .map (some m) := hs.eval 3 _ 14 rfl (hdep ⟨3, .data⟩ (by simp) rfl) rfl
    have e15 : a'.eval (.tmp 15) = .agg (L.lv z n) := hs.eval 4 _ 15 rfl (hdep ⟨4, .data⟩ (by simp) rfl) rfl
    exact g_val (.tuple #[.int .i64 c, .bool q]) hS rfl (run_op_lookup rfl e14 e15 (HK.out w' hS)) rfl
  · go_light; intro listed a' w' hs hS hun hdep
    have e16 : a'.eval (.tmp 16) = .tuple #[.int .i64 c, .bool q] := hs.eval 5 _ 16 rfl (hdep ⟨5, .data⟩ (by simp) rfl) rfl
    refine g_val (.tuple #[.int .i64 c, .bool q]) hS rfl ?_ rfl
    have hcn := BigFrame.eval_const a'; have hfn := BigFrame.eval_func a'; clear hs hdep; generalize a'.eval = ev at *; go_simp
  · go_light; intro listed a' w' hs hS hun hdep
    have e10 : a'.eval (.tmp 10) = .tuple #[.int .i64 c, .bool q] := hs.eval 6 _ 10 rfl (hdep ⟨6, .data⟩ (by simp) rfl) rfl
    refine g_val (.int .i64 c) hS rfl ?_ rfl
    have hcn := BigFrame.eval_const a'; have hfn := BigFrame.eval_func a'; clear hs hdep; generalize a'.eval = ev at *; go_simp
  · go_light; intro listed a' w' hs hS hun hdep
    have e10 : a'.eval (.tmp 10) = .tuple #[.int .i64 c, .bool q] := hs.eval 6 _ 10 rfl (hdep ⟨6, .data⟩ (by simp) rfl) rfl
    refine g_val (.bool q) hS rfl ?_ rfl
    have hcn := BigFrame.eval_const a'; have hfn := BigFrame.eval_func a'; clear hs hdep; generalize a'.eval = ev at *; go_simp
  · go_light; intro listed a' w' hs hS hun hdep
    have e17 : a'.eval (.tmp 17) = .int .i64 c := hs.eval 7 _ 17 rfl (hdep ⟨7, .data⟩ (by simp) rfl) rfl
    refine g_val (.int .i64 c) hS rfl ?_ rfl
    have hcn := BigFrame.eval_const a'; have hfn := BigFrame.eval_func a'; clear hs hdep; generalize a'.eval = ev at *; go_simp
  · go_light; intro listed a' w' hs hS hun hdep
    have e18 : a'.eval (.tmp 18) = .bool q := hs.eval 8 _ 18 rfl (hdep ⟨8, .data⟩ (by simp) rfl) rfl
    refine g_val (.bool q) hS rfl ?_ rfl
    have hcn := BigFrame.eval_const a'; have hfn := BigFrame.eval_func a'; clear hs hdep; generalize a'.eval = ev at *; go_simp
  · intro vs w3 hlen hV listed hall hS
    obtain ⟨v0, v1, v2, v3, v4, v5, v6, v7, v8, v9, v10, rfl⟩ := vs11 vs (hlen.trans rfl)
    have q0 : v0 = .pointer (some ⟨g, 0, none⟩) := hV 0 _ rfl
    have q1 : v1 = .pointer (some ⟨g, 0, none⟩) := hV 1 _ rfl
    have q2 : v2 = .pointer (some ⟨g, 1, none⟩) := hV 2 _ rfl
    have q3 : v3 = .map (some m) := hV 3 _ rfl
    have q4 : v4 = .agg (L.lv z n) := hV 4 _ rfl
    have q5 : v5 = .tuple #[.int .i64 c, .bool q] := hV 5 _ rfl
    have q6 : v6 = .tuple #[.int .i64 c, .bool q] := hV 6 _ rfl
    have q7 : v7 = .int .i64 c := hV 7 _ rfl
    have q8 : v8 = .bool q := hV 8 _ rfl
    have q9 : v9 = .int .i64 c := hV 9 _ rfl
    have q10 : v10 = .bool q := hV 10 _ rfl
    have hbel : Below (w.alloc (.cells (L.lv z n) 29)).heap.size (w.alloc (.cells (L.lv z n) 29)) w3 := hS
    subst q0 q1 q2 q3 q4 q5 q6 q7 q8 q9 q10
    clear hV hS hall
    simp only [lays, Act.put, List.setIfInBounds_toArray, List.set_cons_zero, List.set_cons_succ]
    go_wp2
    go_ret2
    exact ⟨rfl, hb0.trans (hbel.mono hb0.size)⟩
theorem Find_nil (z : Int) (n : Nat) (w : World) :
    Calls Try.prog 23 #[.pointer none, .agg (L.lv z n)] w fun e w' => e = .returned (.tuple #[.int .i64 0, .bool false]) ∧ Below w.heap.size w w' := by
  have hb0 : Below w.heap.size w (w.alloc (.cells (L.lv z n) 29)) := (Below.refl _ w).alloc (Nat.le_refl _) _
  go_enter Try.func23, Try.ntmps23
  go_wp2
  go_ret2
  exact ⟨rfl, hb0⟩
#print axioms Find_any
#print axioms Find_nil
end Go.Proofs.Ytdipoaekdafbeaa
