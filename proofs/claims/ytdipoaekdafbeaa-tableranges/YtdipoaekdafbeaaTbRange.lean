/- The document's answer for a range of labels. -/
import Derived.Test.YtdipoaekdafbeaaTbAwake
namespace Go.Proofs.Ytdipoaekdafbeaa
open Go.RowKit Go.Maps Go.ChangeMaps
set_option maxRecDepth 100000
set_option linter.unusedVariables false
open T

theorem vs14 (vs : List Value) (h : vs.length = 14) : ∃ v0 v1 v2 v3 v4 v5 v6 v7 v8 v9 v10 v11 v12 v13, vs = [v0, v1, v2, v3, v4, v5, v6, v7, v8, v9, v10, v11, v12, v13] := by
  obtain ⟨v0, r0, rfl, h0⟩ := LbLow.vs_cons vs h
  obtain ⟨v1, r1, rfl, h1⟩ := LbLow.vs_cons r0 h0
  obtain ⟨v2, r2, rfl, h2⟩ := LbLow.vs_cons r1 h1
  obtain ⟨v3, r3, rfl, h3⟩ := LbLow.vs_cons r2 h2
  obtain ⟨v4, r4, rfl, h4⟩ := LbLow.vs_cons r3 h3
  obtain ⟨v5, r5, rfl, h5⟩ := LbLow.vs_cons r4 h4
  obtain ⟨v6, r6, rfl, h6⟩ := LbLow.vs_cons r5 h5
  obtain ⟨v7, r7, rfl, h7⟩ := LbLow.vs_cons r6 h6
  obtain ⟨v8, r8, rfl, h8⟩ := LbLow.vs_cons r7 h7
  obtain ⟨v9, r9, rfl, h9⟩ := LbLow.vs_cons r8 h8
  obtain ⟨v10, r10, rfl, h10⟩ := LbLow.vs_cons r9 h9
  obtain ⟨v11, r11, rfl, h11⟩ := LbLow.vs_cons r10 h10
  obtain ⟨v12, r12, rfl, h12⟩ := LbLow.vs_cons r11 h11
  obtain ⟨v13, r13, rfl, h13⟩ := LbLow.vs_cons r12 h12
  obtain rfl := List.eq_nil_of_length_eq_zero h13
  exact ⟨v0, v1, v2, v3, v4, v5, v6, v7, v8, v9, v10, v11, v12, v13, rfl⟩
/-- A row of another type than a label's lies elsewhere. -/
theorem VBuf.lab_away {e : TypeId} {base : Nat} {ao : Option Addr} {cap : Nat} {vs : List Value} {w : World} {g n : Nat} {z : Int} (h : VBuf e base ao cap vs w) (hs : LabAt w g z n) (hne : e ≠ 29) : some g ≠ Value.ownBlock (.slice ao vs.length cap) := fun he => by
  rcases h.2 with ⟨hv, hn⟩ | ⟨g', cap', cur, hv, hbg, hg, _⟩
  · rw [hv] at he
    simp [Value.ownBlock] at he
  · rw [hv] at he
    have : g = g' := by simpa [Value.ownBlock] using he
    subst this
    unfold LabAt at hs
    rw [hs] at hg
    injection hg with hg
    injection hg with _ ht
    exact hne ht.symm

set_option maxHeartbeats 16000000 in
theorem rrange_any (a : Option Addr) (cap : Nat) (l : Labs) (lo hi : Int × Nat) (w : World) (h : LRow w a l) (hl : l.length ≤ 1000) (hok : ∀ p ∈ l, ok p) (hlo : lo.2 < 2 ^ 240) (hhi : hi.2 < 2 ^ 240) :
    Calls Try.prog 30 #[.slice a l.length cap, .agg (L.lv lo.1 lo.2), .agg (L.lv hi.1 hi.2)] w fun e w' => ∃ ao cp, e = .returned (.slice ao (which (inP lo hi) l).length cp) ∧ IRow w' ao (which (inP lo hi) l) ∧ Below w.heap.size w w' := by
  have Hrow := Lib.hid h
  have Hok := Lib.hid hok
  have hb0 : Below w.heap.size w ((w.alloc (.cells (L.lv lo.1 lo.2) 29)).alloc (.cells (L.lv hi.1 hi.2) 29)) := ((Below.refl _ w).alloc (Nat.le_refl _) _).alloc (by simp) _
  have h1 : LabAt ((w.alloc (.cells (L.lv lo.1 lo.2) 29)).alloc (.cells (L.lv hi.1 hi.2) 29)) w.heap.size lo.1 lo.2 := (LabAt.new w lo.1 lo.2).alloc _
  have h2 : LabAt ((w.alloc (.cells (L.lv lo.1 lo.2) 29)).alloc (.cells (L.lv hi.1 hi.2) 29)) (w.heap.size + 1) hi.1 hi.2 := by
    have := LabAt.new (w.alloc (.cells (L.lv lo.1 lo.2) 29)) hi.1 hi.2; simpa using this
  have H1 := Lib.hid h1
  have H2 := Lib.hid h2
  have Hb0 := Lib.hid hb0
  clear h hok h1 h2
  go_enter Try.func30, Try.ntmps30
  go_wp2
  go_loopw [7, 8] (fun s i wr => ∃ (k : Nat) (ab : Option Addr) (cp : Nat), k ≤ l.length ∧ i = .int .i64 k ∧ s = .slice ab (intsV (whichTo (inP lo hi) l k)).length cp ∧ VBuf 3 w.heap.size ab cp (intsV (whichTo (inP lo hi) l k)) wr ∧ Below w.heap.size w wr ∧ LabAt wr w.heap.size lo.1 lo.2 ∧ LabAt wr (w.heap.size + 1) hi.1 hi.2) (fun _ i _ => l.length - (intOf i).toNat)
  case atStart => exact ⟨0, none, 0, by omega, rfl, rfl, VBuf.nil _ _ _, hb0, H1.out, H2.out⟩
  case round =>
    obtain ⟨k, ab, cp, hk, rfl, rfl, hbuf, hb, hlo1, hhi1⟩ := hrel
    have hbs := hb.size
    have hwl := whichTo_len (inP lo hi) l k
    have hlen : (intsV (whichTo (inP lo hi) l k)).length ≤ k := by unfold intsV; rw [List.length_map]; exact hwl
    have HLo := Lib.hid hlo1
    have HHi := Lib.hid hhi1
    clear hlo1 hhi1 hb0
    by_cases hlt : k < l.length
    · obtain ⟨b, off, rfl, hbl, hr⟩ := labs_row (Hrow.out.below hb) k hlt
      have hx : (lab l k).2 < 2 ^ 240 := (Hok.out _ (lab_mem l k hlt)).2
      have HRo := Lib.hid (fun w' (hS : Below wr.heap.size wr w') => hr k hlt w' hS)
      have HD1 := Lib.hid (fun w => rdom_any (lab l k).1 (lab l k).2 lo.1 lo.2 w hlo)
      have HD2 := Lib.hid (fun w => rdom_any hi.1 hi.2 (lab l k).1 (lab l k).2 w hx)
      have Ht : Hid (intsV (whichTo (inP lo hi) l (k + 1)) = intsV (whichTo (inP lo hi) l k) ++ (if (L.dom (lab l k).1 (lab l k).2 lo.1 lo.2 && L.dom hi.1 hi.2 (lab l k).1 (lab l k).2) then [.int .i64 k] else [])) := Lib.hid (by
        rw [whichTo_succ]
        unfold intsV
        rw [List.map_append]
        show _ ++ (List.map _ (if inP lo hi (lab l k) = true then _ else _)) = _
        unfold inP
        cases (L.dom (lab l k).1 (lab l k).2 lo.1 lo.2 && L.dom hi.1 hi.2 (lab l k).1 (lab l k).2) <;> rfl)
      have hk' : (k : Int) < (l.length : Int) := by omega
      generalize intsV (whichTo (inP lo hi) l k) = vs at *
      generalize L.dom (lab l k).1 (lab l k).2 lo.1 lo.2 = p at *
      generalize L.dom hi.1 hi.2 (lab l k).1 (lab l k).2 = q at *
      generalize lab l k = x at *
      have HBuf := Lib.hid hbuf
      clear hbuf hr hwl hx
      cases p
      · go_wp2
        refine region_gen (VG wr.heap.size [.val (.slice (some ⟨b, off, none⟩) l.length cap), .val (.int .i64 k), .val (.pointer (some ⟨b, off + k * 31, none⟩)), .val (.agg (L.lv x.1 x.2)), .val (.agg (L.lv lo.1 lo.2)), .val (.bool false), .val (.bool false), .any, .any, .any, .any, .any, .any, .val (.bool false)]) (BS wr) (by kernel_rfl) (by kernel_rfl) (Below.refl _ _).drew ⟨?_, ?_, ?_, ?_, ?_, ?_, ?_, ?_, ?_, ?_, ?_, ?_, ?_, ?_, trivial⟩ ?_
        · go_light; intro listed a' w' hs hS hun hdep
          have e0 : a'.eval (.tmp 0) = .slice (some ⟨b, off, none⟩) l.length cap := (hs.out 0 (by kernel_rfl)).trans (rfl)
          refine g_val (.slice (some ⟨b, off, none⟩) l.length cap) hS rfl ?_ rfl
          have hcn := BigFrame.eval_const a'; have hfn := BigFrame.eval_func a'; clear hs hdep; generalize a'.eval = ev at *; go_simp
        · go_light; intro listed a' w' hs hS hun hdep
          have e8 : a'.eval (.tmp 8) = .int .i64 k := (hs.out 8 (by kernel_rfl)).trans (rfl)
          refine g_val (.int .i64 k) hS rfl ?_ rfl
          have hcn := BigFrame.eval_const a'; have hfn := BigFrame.eval_func a'; clear hs hdep; generalize a'.eval = ev at *; go_simp
        · go_light; intro listed a' w' hs hS hun hdep
          have e15 : a'.eval (.tmp 15) = .slice (some ⟨b, off, none⟩) l.length cap := hs.eval 0 _ 15 rfl (hdep ⟨0, .data⟩ (by simp) rfl) rfl
          have e16 : a'.eval (.tmp 16) = .int .i64 k := hs.eval 1 _ 16 rfl (hdep ⟨1, .data⟩ (by simp) rfl) rfl
          refine g_val (.pointer (some ⟨b, off + k * 31, none⟩)) hS rfl ?_ rfl
          have hcn := BigFrame.eval_const a'; have hfn := BigFrame.eval_func a'; clear hs hdep; generalize a'.eval = ev at *; go_simp
        · go_light; intro listed a' w' hs hS hun hdep
          have e17 : a'.eval (.tmp 17) = .pointer (some ⟨b, off + k * 31, none⟩) := hs.eval 2 _ 17 rfl (hdep ⟨2, .data⟩ (by simp) rfl) rfl
          exact g_val (.agg (L.lv x.1 x.2)) hS rfl (run_op_load_mid rfl e17 (HRo.out w' hS)) rfl
        · go_light; intro listed a' w' hs hS hun hdep
          have e4 : a'.eval (.tmp 4) = .pointer (some ⟨w.heap.size, 0, none⟩) := (hs.out 4 (by kernel_rfl)).trans (rfl)
          exact g_val (.agg (L.lv lo.1 lo.2)) hS rfl (run_op_load_lab rfl e4 (HLo.out.below hS HLo.out.lt)) rfl
        · go_light; intro listed a' w' hs hS hun hdep
          have e18 : a'.eval (.tmp 18) = .agg (L.lv x.1 x.2) := hs.eval 3 _ 18 rfl (hdep ⟨3, .data⟩ (by simp) rfl) rfl
          have e19 : a'.eval (.tmp 19) = .agg (L.lv lo.1 lo.2) := hs.eval 4 _ 19 rfl (hdep ⟨4, .data⟩ (by simp) rfl) rfl
          refine g_call 27 #[.agg (L.lv x.1 x.2), .agg (L.lv lo.1 lo.2)] hS rfl ?_ ?_
          · have hcn := BigFrame.eval_const a'; have hfn := BigFrame.eval_func a'; clear hs hdep; generalize a'.eval = ev at *; go_simp
          · exact c_val (HD1.out w') rfl
        · go_light; intro listed a' w' hs hS hun hdep
          have e20 : a'.eval (.tmp 20) = .bool false := hs.eval 5 _ 20 rfl (hdep ⟨5, .data⟩ (by simp) rfl) rfl
          refine g_val (.bool false) hS rfl ?_ rfl
          have hcn := BigFrame.eval_const a'; have hfn := BigFrame.eval_func a'; clear hs hdep; generalize a'.eval = ev at *; go_simp
        · go_light; intro listed a' w' hs hS hun hdep
          have eg : a'.eval (.tmp 21) = .bool false := hs.eval 6 _ 21 rfl (hdep ⟨6, .guard⟩ (by simp) rfl) rfl
          exact g_not hS (wanted_no rfl rfl rfl eg (by decide)) trivial
        · go_light; intro listed a' w' hs hS hun hdep
          have eg : a'.eval (.tmp 21) = .bool false := hs.eval 6 _ 21 rfl (hdep ⟨6, .guard⟩ (by simp) rfl) rfl
          exact g_not hS (wanted_no rfl rfl rfl eg (by decide)) trivial
        · go_light; intro listed a' w' hs hS hun hdep
          have eg : a'.eval (.tmp 21) = .bool false := hs.eval 6 _ 21 rfl (hdep ⟨6, .guard⟩ (by simp) rfl) rfl
          exact g_not hS (wanted_no rfl rfl rfl eg (by decide)) trivial
        · go_light; intro listed a' w' hs hS hun hdep
          have eg : a'.eval (.tmp 21) = .bool false := hs.eval 6 _ 21 rfl (hdep ⟨6, .guard⟩ (by simp) rfl) rfl
          exact g_not hS (wanted_no rfl rfl rfl eg (by decide)) trivial
        · go_light; intro listed a' w' hs hS hun hdep
          have eg : a'.eval (.tmp 21) = .bool false := hs.eval 6 _ 21 rfl (hdep ⟨6, .guard⟩ (by simp) rfl) rfl
          exact g_not hS (wanted_no rfl rfl rfl eg (by decide)) trivial
        · go_light; intro listed a' w' hs hS hun hdep
          have eg : a'.eval (.tmp 21) = .bool false := hs.eval 6 _ 21 rfl (hdep ⟨6, .guard⟩ (by simp) rfl) rfl
          exact g_not hS (wanted_no rfl rfl rfl eg (by decide)) trivial
        · go_light; intro listed a' w' hs hS hun hdep
          have e21 : a'.eval (.tmp 21) = .bool false := hs.eval 6 _ 21 rfl (hdep ⟨6, .data⟩ (by simp) rfl) rfl
          refine g_val (.bool false) hS rfl ?_ rfl
          have hcn := BigFrame.eval_const a'; have hfn := BigFrame.eval_func a'; clear hs hdep; generalize a'.eval = ev at *; go_simp
        · intro vs w3 hlen hV listed hall hS
          obtain ⟨v0, v1, v2, v3, v4, v5, v6, v7, v8, v9, v10, v11, v12, v13, rfl⟩ := vs14 vs (hlen.trans rfl)
          have q0 : v0 = .slice (some ⟨b, off, none⟩) l.length cap := hV 0 _ rfl
          have q1 : v1 = .int .i64 k := hV 1 _ rfl
          have q2 : v2 = .pointer (some ⟨b, off + k * 31, none⟩) := hV 2 _ rfl
          have q3 : v3 = .agg (L.lv x.1 x.2) := hV 3 _ rfl
          have q4 : v4 = .agg (L.lv lo.1 lo.2) := hV 4 _ rfl
          have q5 : v5 = .bool false := hV 5 _ rfl
          have q6 : v6 = .bool false := hV 6 _ rfl
          have q13 : v13 = .bool false := hV 13 _ rfl
          have hbel : Below wr.heap.size wr w3 := hS
          subst q0 q1 q2 q3 q4 q5 q6 q13
          clear hV hS hall
          simp only [lays, Act.put, List.setIfInBounds_toArray, List.set_cons_zero, List.set_cons_succ]
          have hbw := hb.trans (hbel.mono hbs)
          have HB2 := Lib.hid (HBuf.out.carry hbel)
          have HLo2 := Lib.hid (HLo.out.below hbel HLo.out.lt)
          have HHi2 := Lib.hid (HHi.out.below hbel HHi.out.lt)
          clear HBuf HLo HHi HRo HD1 HD2 hbel
          go_wp2
          go_roundw
          case rel => exact ⟨k + 1, ab, cp, by omega, by go_num, by rw [Ht.out]; simp, by rw [Ht.out]; simpa using HB2.out, hbw, HLo2.out, HHi2.out⟩
          case measure => simp [intOf]; omega
      · cases q
        · go_wp2
          refine region_gen (VG wr.heap.size [.val (.slice (some ⟨b, off, none⟩) l.length cap), .val (.int .i64 k), .val (.pointer (some ⟨b, off + k * 31, none⟩)), .val (.agg (L.lv x.1 x.2)), .val (.agg (L.lv lo.1 lo.2)), .val (.bool true), .val (.bool true), .val (.agg (L.lv hi.1 hi.2)), .val (.slice (some ⟨b, off, none⟩) l.length cap), .val (.int .i64 k), .val (.pointer (some ⟨b, off + k * 31, none⟩)), .val (.agg (L.lv x.1 x.2)), .val (.bool false), .val (.bool false)]) (BS wr) (by kernel_rfl) (by kernel_rfl) (Below.refl _ _).drew ⟨?_, ?_, ?_, ?_, ?_, ?_, ?_, ?_, ?_, ?_, ?_, ?_, ?_, ?_, trivial⟩ ?_
          · go_light; intro listed a' w' hs hS hun hdep
            have e0 : a'.eval (.tmp 0) = .slice (some ⟨b, off, none⟩) l.length cap := (hs.out 0 (by kernel_rfl)).trans (rfl)
            refine g_val (.slice (some ⟨b, off, none⟩) l.length cap) hS rfl ?_ rfl
            have hcn := BigFrame.eval_const a'; have hfn := BigFrame.eval_func a'; clear hs hdep; generalize a'.eval = ev at *; go_simp
          · go_light; intro listed a' w' hs hS hun hdep
            have e8 : a'.eval (.tmp 8) = .int .i64 k := (hs.out 8 (by kernel_rfl)).trans (rfl)
            refine g_val (.int .i64 k) hS rfl ?_ rfl
            have hcn := BigFrame.eval_const a'; have hfn := BigFrame.eval_func a'; clear hs hdep; generalize a'.eval = ev at *; go_simp
          · go_light; intro listed a' w' hs hS hun hdep
            have e15 : a'.eval (.tmp 15) = .slice (some ⟨b, off, none⟩) l.length cap := hs.eval 0 _ 15 rfl (hdep ⟨0, .data⟩ (by simp) rfl) rfl
            have e16 : a'.eval (.tmp 16) = .int .i64 k := hs.eval 1 _ 16 rfl (hdep ⟨1, .data⟩ (by simp) rfl) rfl
            refine g_val (.pointer (some ⟨b, off + k * 31, none⟩)) hS rfl ?_ rfl
            have hcn := BigFrame.eval_const a'; have hfn := BigFrame.eval_func a'; clear hs hdep; generalize a'.eval = ev at *; go_simp
          · go_light; intro listed a' w' hs hS hun hdep
            have e17 : a'.eval (.tmp 17) = .pointer (some ⟨b, off + k * 31, none⟩) := hs.eval 2 _ 17 rfl (hdep ⟨2, .data⟩ (by simp) rfl) rfl
            exact g_val (.agg (L.lv x.1 x.2)) hS rfl (run_op_load_mid rfl e17 (HRo.out w' hS)) rfl
          · go_light; intro listed a' w' hs hS hun hdep
            have e4 : a'.eval (.tmp 4) = .pointer (some ⟨w.heap.size, 0, none⟩) := (hs.out 4 (by kernel_rfl)).trans (rfl)
            exact g_val (.agg (L.lv lo.1 lo.2)) hS rfl (run_op_load_lab rfl e4 (HLo.out.below hS HLo.out.lt)) rfl
          · go_light; intro listed a' w' hs hS hun hdep
            have e18 : a'.eval (.tmp 18) = .agg (L.lv x.1 x.2) := hs.eval 3 _ 18 rfl (hdep ⟨3, .data⟩ (by simp) rfl) rfl
            have e19 : a'.eval (.tmp 19) = .agg (L.lv lo.1 lo.2) := hs.eval 4 _ 19 rfl (hdep ⟨4, .data⟩ (by simp) rfl) rfl
            refine g_call 27 #[.agg (L.lv x.1 x.2), .agg (L.lv lo.1 lo.2)] hS rfl ?_ ?_
            · have hcn := BigFrame.eval_const a'; have hfn := BigFrame.eval_func a'; clear hs hdep; generalize a'.eval = ev at *; go_simp
            · exact c_val (HD1.out w') rfl
          · go_light; intro listed a' w' hs hS hun hdep
            have e20 : a'.eval (.tmp 20) = .bool true := hs.eval 5 _ 20 rfl (hdep ⟨5, .data⟩ (by simp) rfl) rfl
            refine g_val (.bool true) hS rfl ?_ rfl
            have hcn := BigFrame.eval_const a'; have hfn := BigFrame.eval_func a'; clear hs hdep; generalize a'.eval = ev at *; go_simp
          · go_light; intro listed a' w' hs hS hun hdep
            have eg : a'.eval (.tmp 21) = .bool true := hs.eval 6 _ 21 rfl (hdep ⟨6, .guard⟩ (by simp) rfl) rfl
            have e5 : a'.eval (.tmp 5) = .pointer (some ⟨(w.heap.size + 1), 0, none⟩) := (hs.out 5 (by kernel_rfl)).trans (rfl)
            exact g_val (.agg (L.lv hi.1 hi.2)) hS (wanted_yes rfl rfl rfl eg) (run_op_load_lab rfl e5 (HHi.out.below hS HHi.out.lt)) rfl
          · go_light; intro listed a' w' hs hS hun hdep
            have eg : a'.eval (.tmp 21) = .bool true := hs.eval 6 _ 21 rfl (hdep ⟨6, .guard⟩ (by simp) rfl) rfl
            have e0 : a'.eval (.tmp 0) = .slice (some ⟨b, off, none⟩) l.length cap := (hs.out 0 (by kernel_rfl)).trans (rfl)
            refine g_val (.slice (some ⟨b, off, none⟩) l.length cap) hS (wanted_yes rfl rfl rfl eg) ?_ rfl
            have hcn := BigFrame.eval_const a'; have hfn := BigFrame.eval_func a'; clear hs hdep; generalize a'.eval = ev at *; go_simp
          · go_light; intro listed a' w' hs hS hun hdep
            have eg : a'.eval (.tmp 21) = .bool true := hs.eval 6 _ 21 rfl (hdep ⟨6, .guard⟩ (by simp) rfl) rfl
            have e8 : a'.eval (.tmp 8) = .int .i64 k := (hs.out 8 (by kernel_rfl)).trans (rfl)
            refine g_val (.int .i64 k) hS (wanted_yes rfl rfl rfl eg) ?_ rfl
            have hcn := BigFrame.eval_const a'; have hfn := BigFrame.eval_func a'; clear hs hdep; generalize a'.eval = ev at *; go_simp
          · go_light; intro listed a' w' hs hS hun hdep
            have eg : a'.eval (.tmp 21) = .bool true := hs.eval 6 _ 21 rfl (hdep ⟨6, .guard⟩ (by simp) rfl) rfl
            have e23 : a'.eval (.tmp 23) = .slice (some ⟨b, off, none⟩) l.length cap := hs.eval 8 _ 23 rfl (hdep ⟨8, .data⟩ (by simp) rfl) rfl
            have e24 : a'.eval (.tmp 24) = .int .i64 k := hs.eval 9 _ 24 rfl (hdep ⟨9, .data⟩ (by simp) rfl) rfl
            refine g_val (.pointer (some ⟨b, off + k * 31, none⟩)) hS (wanted_yes rfl rfl rfl eg) ?_ rfl
            have hcn := BigFrame.eval_const a'; have hfn := BigFrame.eval_func a'; clear hs hdep; generalize a'.eval = ev at *; go_simp
          · go_light; intro listed a' w' hs hS hun hdep
            have eg : a'.eval (.tmp 21) = .bool true := hs.eval 6 _ 21 rfl (hdep ⟨6, .guard⟩ (by simp) rfl) rfl
            have e25 : a'.eval (.tmp 25) = .pointer (some ⟨b, off + k * 31, none⟩) := hs.eval 10 _ 25 rfl (hdep ⟨10, .data⟩ (by simp) rfl) rfl
            exact g_val (.agg (L.lv x.1 x.2)) hS (wanted_yes rfl rfl rfl eg) (run_op_load_mid rfl e25 (HRo.out w' hS)) rfl
          · go_light; intro listed a' w' hs hS hun hdep
            have eg : a'.eval (.tmp 21) = .bool true := hs.eval 6 _ 21 rfl (hdep ⟨6, .guard⟩ (by simp) rfl) rfl
            have e22 : a'.eval (.tmp 22) = .agg (L.lv hi.1 hi.2) := hs.eval 7 _ 22 rfl (hdep ⟨7, .data⟩ (by simp) rfl) rfl
            have e26 : a'.eval (.tmp 26) = .agg (L.lv x.1 x.2) := hs.eval 11 _ 26 rfl (hdep ⟨11, .data⟩ (by simp) rfl) rfl
            refine g_call 27 #[.agg (L.lv hi.1 hi.2), .agg (L.lv x.1 x.2)] hS (wanted_yes rfl rfl rfl eg) ?_ ?_
            · have hcn := BigFrame.eval_const a'; have hfn := BigFrame.eval_func a'; clear hs hdep; generalize a'.eval = ev at *; go_simp
            · exact c_val (HD2.out w') rfl
          · go_light; intro listed a' w' hs hS hun hdep
            have e21 : a'.eval (.tmp 21) = .bool true := hs.eval 6 _ 21 rfl (hdep ⟨6, .data⟩ (by simp) rfl) rfl
            have e27 : a'.eval (.tmp 27) = .bool false := hs.eval 12 _ 27 rfl (hdep ⟨12, .data⟩ (by simp) rfl) rfl
            refine g_val (.bool false) hS rfl ?_ rfl
            have hcn := BigFrame.eval_const a'; have hfn := BigFrame.eval_func a'; clear hs hdep; generalize a'.eval = ev at *; go_simp
          · intro vs w3 hlen hV listed hall hS
            obtain ⟨v0, v1, v2, v3, v4, v5, v6, v7, v8, v9, v10, v11, v12, v13, rfl⟩ := vs14 vs (hlen.trans rfl)
            have q0 : v0 = .slice (some ⟨b, off, none⟩) l.length cap := hV 0 _ rfl
            have q1 : v1 = .int .i64 k := hV 1 _ rfl
            have q2 : v2 = .pointer (some ⟨b, off + k * 31, none⟩) := hV 2 _ rfl
            have q3 : v3 = .agg (L.lv x.1 x.2) := hV 3 _ rfl
            have q4 : v4 = .agg (L.lv lo.1 lo.2) := hV 4 _ rfl
            have q5 : v5 = .bool true := hV 5 _ rfl
            have q6 : v6 = .bool true := hV 6 _ rfl
            have q7 : v7 = .agg (L.lv hi.1 hi.2) := hV 7 _ rfl
            have q8 : v8 = .slice (some ⟨b, off, none⟩) l.length cap := hV 8 _ rfl
            have q9 : v9 = .int .i64 k := hV 9 _ rfl
            have q10 : v10 = .pointer (some ⟨b, off + k * 31, none⟩) := hV 10 _ rfl
            have q11 : v11 = .agg (L.lv x.1 x.2) := hV 11 _ rfl
            have q12 : v12 = .bool false := hV 12 _ rfl
            have q13 : v13 = .bool false := hV 13 _ rfl
            have hbel : Below wr.heap.size wr w3 := hS
            subst q0 q1 q2 q3 q4 q5 q6 q7 q8 q9 q10 q11 q12 q13
            clear hV hS hall
            simp only [lays, Act.put, List.setIfInBounds_toArray, List.set_cons_zero, List.set_cons_succ]
            have hbw := hb.trans (hbel.mono hbs)
            have HB2 := Lib.hid (HBuf.out.carry hbel)
            have HLo2 := Lib.hid (HLo.out.below hbel HLo.out.lt)
            have HHi2 := Lib.hid (HHi.out.below hbel HHi.out.lt)
            clear HBuf HLo HHi HRo HD1 HD2 hbel
            go_wp2
            go_roundw
            case rel => exact ⟨k + 1, ab, cp, by omega, by go_num, by rw [Ht.out]; simp, by rw [Ht.out]; simpa using HB2.out, hbw, HLo2.out, HHi2.out⟩
            case measure => simp [intOf]; omega
        · go_wp2
          refine region_gen (VG wr.heap.size [.val (.slice (some ⟨b, off, none⟩) l.length cap), .val (.int .i64 k), .val (.pointer (some ⟨b, off + k * 31, none⟩)), .val (.agg (L.lv x.1 x.2)), .val (.agg (L.lv lo.1 lo.2)), .val (.bool true), .val (.bool true), .val (.agg (L.lv hi.1 hi.2)), .val (.slice (some ⟨b, off, none⟩) l.length cap), .val (.int .i64 k), .val (.pointer (some ⟨b, off + k * 31, none⟩)), .val (.agg (L.lv x.1 x.2)), .val (.bool true), .val (.bool true)]) (BS wr) (by kernel_rfl) (by kernel_rfl) (Below.refl _ _).drew ⟨?_, ?_, ?_, ?_, ?_, ?_, ?_, ?_, ?_, ?_, ?_, ?_, ?_, ?_, trivial⟩ ?_
          · go_light; intro listed a' w' hs hS hun hdep
            have e0 : a'.eval (.tmp 0) = .slice (some ⟨b, off, none⟩) l.length cap := (hs.out 0 (by kernel_rfl)).trans (rfl)
            refine g_val (.slice (some ⟨b, off, none⟩) l.length cap) hS rfl ?_ rfl
            have hcn := BigFrame.eval_const a'; have hfn := BigFrame.eval_func a'; clear hs hdep; generalize a'.eval = ev at *; go_simp
          · go_light; intro listed a' w' hs hS hun hdep
            have e8 : a'.eval (.tmp 8) = .int .i64 k := (hs.out 8 (by kernel_rfl)).trans (rfl)
            refine g_val (.int .i64 k) hS rfl ?_ rfl
            have hcn := BigFrame.eval_const a'; have hfn := BigFrame.eval_func a'; clear hs hdep; generalize a'.eval = ev at *; go_simp
          · go_light; intro listed a' w' hs hS hun hdep
            have e15 : a'.eval (.tmp 15) = .slice (some ⟨b, off, none⟩) l.length cap := hs.eval 0 _ 15 rfl (hdep ⟨0, .data⟩ (by simp) rfl) rfl
            have e16 : a'.eval (.tmp 16) = .int .i64 k := hs.eval 1 _ 16 rfl (hdep ⟨1, .data⟩ (by simp) rfl) rfl
            refine g_val (.pointer (some ⟨b, off + k * 31, none⟩)) hS rfl ?_ rfl
            have hcn := BigFrame.eval_const a'; have hfn := BigFrame.eval_func a'; clear hs hdep; generalize a'.eval = ev at *; go_simp
          · go_light; intro listed a' w' hs hS hun hdep
            have e17 : a'.eval (.tmp 17) = .pointer (some ⟨b, off + k * 31, none⟩) := hs.eval 2 _ 17 rfl (hdep ⟨2, .data⟩ (by simp) rfl) rfl
            exact g_val (.agg (L.lv x.1 x.2)) hS rfl (run_op_load_mid rfl e17 (HRo.out w' hS)) rfl
          · go_light; intro listed a' w' hs hS hun hdep
            have e4 : a'.eval (.tmp 4) = .pointer (some ⟨w.heap.size, 0, none⟩) := (hs.out 4 (by kernel_rfl)).trans (rfl)
            exact g_val (.agg (L.lv lo.1 lo.2)) hS rfl (run_op_load_lab rfl e4 (HLo.out.below hS HLo.out.lt)) rfl
          · go_light; intro listed a' w' hs hS hun hdep
            have e18 : a'.eval (.tmp 18) = .agg (L.lv x.1 x.2) := hs.eval 3 _ 18 rfl (hdep ⟨3, .data⟩ (by simp) rfl) rfl
            have e19 : a'.eval (.tmp 19) = .agg (L.lv lo.1 lo.2) := hs.eval 4 _ 19 rfl (hdep ⟨4, .data⟩ (by simp) rfl) rfl
            refine g_call 27 #[.agg (L.lv x.1 x.2), .agg (L.lv lo.1 lo.2)] hS rfl ?_ ?_
            · have hcn := BigFrame.eval_const a'; have hfn := BigFrame.eval_func a'; clear hs hdep; generalize a'.eval = ev at *; go_simp
            · exact c_val (HD1.out w') rfl
          · go_light; intro listed a' w' hs hS hun hdep
            have e20 : a'.eval (.tmp 20) = .bool true := hs.eval 5 _ 20 rfl (hdep ⟨5, .data⟩ (by simp) rfl) rfl
            refine g_val (.bool true) hS rfl ?_ rfl
            have hcn := BigFrame.eval_const a'; have hfn := BigFrame.eval_func a'; clear hs hdep; generalize a'.eval = ev at *; go_simp
          · go_light; intro listed a' w' hs hS hun hdep
            have eg : a'.eval (.tmp 21) = .bool true := hs.eval 6 _ 21 rfl (hdep ⟨6, .guard⟩ (by simp) rfl) rfl
            have e5 : a'.eval (.tmp 5) = .pointer (some ⟨(w.heap.size + 1), 0, none⟩) := (hs.out 5 (by kernel_rfl)).trans (rfl)
            exact g_val (.agg (L.lv hi.1 hi.2)) hS (wanted_yes rfl rfl rfl eg) (run_op_load_lab rfl e5 (HHi.out.below hS HHi.out.lt)) rfl
          · go_light; intro listed a' w' hs hS hun hdep
            have eg : a'.eval (.tmp 21) = .bool true := hs.eval 6 _ 21 rfl (hdep ⟨6, .guard⟩ (by simp) rfl) rfl
            have e0 : a'.eval (.tmp 0) = .slice (some ⟨b, off, none⟩) l.length cap := (hs.out 0 (by kernel_rfl)).trans (rfl)
            refine g_val (.slice (some ⟨b, off, none⟩) l.length cap) hS (wanted_yes rfl rfl rfl eg) ?_ rfl
            have hcn := BigFrame.eval_const a'; have hfn := BigFrame.eval_func a'; clear hs hdep; generalize a'.eval = ev at *; go_simp
          · go_light; intro listed a' w' hs hS hun hdep
            have eg : a'.eval (.tmp 21) = .bool true := hs.eval 6 _ 21 rfl (hdep ⟨6, .guard⟩ (by simp) rfl) rfl
            have e8 : a'.eval (.tmp 8) = .int .i64 k := (hs.out 8 (by kernel_rfl)).trans (rfl)
            refine g_val (.int .i64 k) hS (wanted_yes rfl rfl rfl eg) ?_ rfl
            have hcn := BigFrame.eval_const a'; have hfn := BigFrame.eval_func a'; clear hs hdep; generalize a'.eval = ev at *; go_simp
          · go_light; intro listed a' w' hs hS hun hdep
            have eg : a'.eval (.tmp 21) = .bool true := hs.eval 6 _ 21 rfl (hdep ⟨6, .guard⟩ (by simp) rfl) rfl
            have e23 : a'.eval (.tmp 23) = .slice (some ⟨b, off, none⟩) l.length cap := hs.eval 8 _ 23 rfl (hdep ⟨8, .data⟩ (by simp) rfl) rfl
            have e24 : a'.eval (.tmp 24) = .int .i64 k := hs.eval 9 _ 24 rfl (hdep ⟨9, .data⟩ (by simp) rfl) rfl
            refine g_val (.pointer (some ⟨b, off + k * 31, none⟩)) hS (wanted_yes rfl rfl rfl eg) ?_ rfl
            have hcn := BigFrame.eval_const a'; have hfn := BigFrame.eval_func a'; clear hs hdep; generalize a'.eval = ev at *; go_simp
          · go_light; intro listed a' w' hs hS hun hdep
            have eg : a'.eval (.tmp 21) = .bool true := hs.eval 6 _ 21 rfl (hdep ⟨6, .guard⟩ (by simp) rfl) rfl
            have e25 : a'.eval (.tmp 25) = .pointer (some ⟨b, off + k * 31, none⟩) := hs.eval 10 _ 25 rfl (hdep ⟨10, .data⟩ (by simp) rfl) rfl
            exact g_val (.agg (L.lv x.1 x.2)) hS (wanted_yes rfl rfl rfl eg) (run_op_load_mid rfl e25 (HRo.out w' hS)) rfl
          · go_light; intro listed a' w' hs hS hun hdep
            have eg : a'.eval (.tmp 21) = .bool true := hs.eval 6 _ 21 rfl (hdep ⟨6, .guard⟩ (by simp) rfl) rfl
            have e22 : a'.eval (.tmp 22) = .agg (L.lv hi.1 hi.2) := hs.eval 7 _ 22 rfl (hdep ⟨7, .data⟩ (by simp) rfl) rfl
            have e26 : a'.eval (.tmp 26) = .agg (L.lv x.1 x.2) := hs.eval 11 _ 26 rfl (hdep ⟨11, .data⟩ (by simp) rfl) rfl
            refine g_call 27 #[.agg (L.lv hi.1 hi.2), .agg (L.lv x.1 x.2)] hS (wanted_yes rfl rfl rfl eg) ?_ ?_
            · have hcn := BigFrame.eval_const a'; have hfn := BigFrame.eval_func a'; clear hs hdep; generalize a'.eval = ev at *; go_simp
            · exact c_val (HD2.out w') rfl
          · go_light; intro listed a' w' hs hS hun hdep
            have e21 : a'.eval (.tmp 21) = .bool true := hs.eval 6 _ 21 rfl (hdep ⟨6, .data⟩ (by simp) rfl) rfl
            have e27 : a'.eval (.tmp 27) = .bool true := hs.eval 12 _ 27 rfl (hdep ⟨12, .data⟩ (by simp) rfl) rfl
            refine g_val (.bool true) hS rfl ?_ rfl
            have hcn := BigFrame.eval_const a'; have hfn := BigFrame.eval_func a'; clear hs hdep; generalize a'.eval = ev at *; go_simp
          · intro vs w3 hlen hV listed hall hS
            obtain ⟨v0, v1, v2, v3, v4, v5, v6, v7, v8, v9, v10, v11, v12, v13, rfl⟩ := vs14 vs (hlen.trans rfl)
            have q0 : v0 = .slice (some ⟨b, off, none⟩) l.length cap := hV 0 _ rfl
            have q1 : v1 = .int .i64 k := hV 1 _ rfl
            have q2 : v2 = .pointer (some ⟨b, off + k * 31, none⟩) := hV 2 _ rfl
            have q3 : v3 = .agg (L.lv x.1 x.2) := hV 3 _ rfl
            have q4 : v4 = .agg (L.lv lo.1 lo.2) := hV 4 _ rfl
            have q5 : v5 = .bool true := hV 5 _ rfl
            have q6 : v6 = .bool true := hV 6 _ rfl
            have q7 : v7 = .agg (L.lv hi.1 hi.2) := hV 7 _ rfl
            have q8 : v8 = .slice (some ⟨b, off, none⟩) l.length cap := hV 8 _ rfl
            have q9 : v9 = .int .i64 k := hV 9 _ rfl
            have q10 : v10 = .pointer (some ⟨b, off + k * 31, none⟩) := hV 10 _ rfl
            have q11 : v11 = .agg (L.lv x.1 x.2) := hV 11 _ rfl
            have q12 : v12 = .bool true := hV 12 _ rfl
            have q13 : v13 = .bool true := hV 13 _ rfl
            have hbel : Below wr.heap.size wr w3 := hS
            subst q0 q1 q2 q3 q4 q5 q6 q7 q8 q9 q10 q11 q12 q13
            clear hV hS hall
            simp only [lays, Act.put, List.setIfInBounds_toArray, List.set_cons_zero, List.set_cons_succ]
            have hbw := hb.trans (hbel.mono hbs)
            have hbuf2 := HBuf.out.carry hbel
            have hlo2 := HLo.out.below hbel HLo.out.lt
            have hhi2 := HHi.out.below hbel HHi.out.lt
            obtain ⟨ao', cap', w4, hrun, hbuf3, hg⟩ := append_one 3 56 _ _ Try.underlying56 Try.info_int rfl (by omega) w.heap.size ab cp vs (w3.alloc (.cells #[.int .i64 k] 3)) (hbuf2.alloc _) (.int .i64 k) rfl w3.heap.size (by simp) 56 (by omega) (by simp; exact Nat.le_succ_of_le hbw.size)
            have hb4 : Below w.heap.size w w4 := (hbw.alloc hbw.size _).grown hg (by simp; exact Nat.le_succ_of_le hbw.size) hbuf2.own
            have HLo4 : Hid (LabAt w4 w.heap.size lo.1 lo.2) := Lib.hid ((hg.block _ (by simp; exact Nat.lt_succ_of_lt hlo2.lt) (fun e => hbuf2.lab_away hlo2 (by decide) e)).trans (hlo2.alloc _))
            have HHi4 : Hid (LabAt w4 (w.heap.size + 1) hi.1 hi.2) := Lib.hid ((hg.block _ (by have := hhi2.lt; simp; omega) (fun e => hbuf2.lab_away hhi2 (by decide) e)).trans (hhi2.alloc _))
            have Hrun := Lib.hid hrun
            have HB4 := Lib.hid hbuf3
            clear hbuf2 hbuf3 HBuf HLo HHi HRo HD1 HD2 hbel hg hrun hbw hlo2 hhi2
            go_wp2_with (at_builtin; refine listAppend rfl _ _ _ _ rfl _ _ rfl rfl _ _ Hrun.out ?_)
            go_roundw
            case rel => exact ⟨k + 1, ao', cap', by omega, by go_num, by rw [Ht.out]; simp, by rw [Ht.out]; simpa using HB4.out, hb4, HLo4.out, HHi4.out⟩
            case measure => simp [intOf]; omega
    · obtain rfl : k = l.length := by omega
      have hl2 : (intsV (whichTo (inP lo hi) l l.length)).length = (which (inP lo hi) l).length := List.length_map _
      have HR := Lib.hid (IRow.of_buf (l := whichTo (inP lo hi) l l.length) hbuf)
      have hlt' : ¬ (l.length : Int) < (l.length : Int) := by omega
      rw [hl2]
      clear hbuf hl2 hlen hwl
      go_wp2
      go_ret
      first | exact ⟨_, ⟨_, rfl⟩, HR.out, hb⟩ | exact ⟨_, _, rfl, HR.out, hb⟩
#print axioms rrange_any
end Go.Proofs.Ytdipoaekdafbeaa
