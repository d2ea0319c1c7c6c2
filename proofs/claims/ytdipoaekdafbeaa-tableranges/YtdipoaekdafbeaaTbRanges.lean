/- TableRanges, walked whole. -/
import Derived.Test.YtdipoaekdafbeaaTbRange
namespace Go.Proofs.Ytdipoaekdafbeaa
open Go.RowKit Go.Maps Go.ChangeMaps
set_option maxRecDepth 100000
set_option linter.unusedVariables false
open T

theorem vs9 (vs : List Value) (h : vs.length = 9) : ∃ v0 v1 v2 v3 v4 v5 v6 v7 v8, vs = [v0, v1, v2, v3, v4, v5, v6, v7, v8] := by
  obtain ⟨v0, r0, rfl, h0⟩ := LbLow.vs_cons vs h
  obtain ⟨v1, r1, rfl, h1⟩ := LbLow.vs_cons r0 h0
  obtain ⟨v2, r2, rfl, h2⟩ := LbLow.vs_cons r1 h1
  obtain ⟨v3, r3, rfl, h3⟩ := LbLow.vs_cons r2 h2
  obtain ⟨v4, r4, rfl, h4⟩ := LbLow.vs_cons r3 h3
  obtain ⟨v5, r5, rfl, h5⟩ := LbLow.vs_cons r4 h4
  obtain ⟨v6, r6, rfl, h6⟩ := LbLow.vs_cons r5 h5
  obtain ⟨v7, r7, rfl, h7⟩ := LbLow.vs_cons r6 h6
  obtain ⟨v8, r8, rfl, h8⟩ := LbLow.vs_cons r7 h7
  obtain rfl := List.eq_nil_of_length_eq_zero h8
  exact ⟨v0, v1, v2, v3, v4, v5, v6, v7, v8, rfl⟩
theorem vs17 (vs : List Value) (h : vs.length = 17) : ∃ v0 v1 v2 v3 v4 v5 v6 v7 v8 v9 v10 v11 v12 v13 v14 v15 v16, vs = [v0, v1, v2, v3, v4, v5, v6, v7, v8, v9, v10, v11, v12, v13, v14, v15, v16] := by
  obtain ⟨v0, r0, rfl, h0⟩ := LbLow.vs_cons vs h
  obtain ⟨v1, r1, rfl, h1⟩ := LbLow.vs_cons r0 h0
  obtain ⟨v2, r2, rfl, h2⟩ := LbLow.vs_cons r1 h1
  obtain ⟨v3, r3, rfl, h3⟩ := LbLow.vs_cons r2 h2
  obtain ⟨v4, r4, rfl, h4⟩ := LbLow.vs_cons r3 h3
  obtain ⟨v5, r5, rfl, h5⟩ := LbLow.vs_cons r4 h4
  obtain ⟨v6, r6, rfl, h6⟩ := LbLow.vs_cons r5 h5
  obtain ⟨v7, r7, rfl, h7⟩ := LbLow.vs_cons r6 h6
  obtain ⟨v8, r8, rfl, h8⟩ := LbLow.vs_cons r7 h7
  obtain ⟨v9, r9, rfl, h9⟩ := LbLow.vs_cons r8 h8
  obtain ⟨v10, r10, rfl, h10⟩ := LbLow.vs_cons r9 h9
  obtain ⟨v11, r11, rfl, h11⟩ := LbLow.vs_cons r10 h10
  obtain ⟨v12, r12, rfl, h12⟩ := LbLow.vs_cons r11 h11
  obtain ⟨v13, r13, rfl, h13⟩ := LbLow.vs_cons r12 h12
  obtain ⟨v14, r14, rfl, h14⟩ := LbLow.vs_cons r13 h13
  obtain ⟨v15, r15, rfl, h15⟩ := LbLow.vs_cons r14 h14
  obtain ⟨v16, r16, rfl, h16⟩ := LbLow.vs_cons r15 h15
  obtain rfl := List.eq_nil_of_length_eq_zero h16
  exact ⟨v0, v1, v2, v3, v4, v5, v6, v7, v8, v9, v10, v11, v12, v13, v14, v15, v16, rfl⟩

set_option maxHeartbeats 16000000 in
theorem ranges_all (a : Option Addr) (cap : Nat) (l : Labs) (lo hi : Int × Nat) (n : Int) (w : World) (h : LRow w a l) (hok : ∀ p ∈ l, ok p) (hlo : lo.2 < 2 ^ 240) (hhi : hi.2 < 2 ^ 240) :
    Calls Try.prog 7 #[.slice a l.length cap, .agg (L.lv lo.1 lo.2), .agg (L.lv hi.1 hi.2), .int .i64 n] w fun e w' => e = .returned (.bool true) ∧ Below w.heap.size w w' := by
  have hb0 : Below w.heap.size w ((w.alloc (.cells (L.lv lo.1 lo.2) 29)).alloc (.cells (L.lv hi.1 hi.2) 29)) := ((Below.refl _ w).alloc (Nat.le_refl _) _).alloc (by simp) _
  have h1 : LabAt ((w.alloc (.cells (L.lv lo.1 lo.2) 29)).alloc (.cells (L.lv hi.1 hi.2) 29)) w.heap.size lo.1 lo.2 := (LabAt.new w lo.1 lo.2).alloc _
  have h2 : LabAt ((w.alloc (.cells (L.lv lo.1 lo.2) 29)).alloc (.cells (L.lv hi.1 hi.2) 29)) (w.heap.size + 1) hi.1 hi.2 := by
    have := LabAt.new (w.alloc (.cells (L.lv lo.1 lo.2) 29)) hi.1 hi.2; simpa using this
  have hr0 := h.below hb0
  have H1 := Lib.hid h1
  have H2 := Lib.hid h2
  have HR0 := Lib.hid hr0
  have Hok := Lib.hid hok
  clear h h1 h2 hr0 hok
  by_cases h40 : 40 < l.length
  · have h40' : (40 : Int) < (l.length : Int) := by omega
    go_enter Try.func7, Try.ntmps7
    go_wp2_with fail
    refine (tab_awake _).mono ?_
    rintro e w1 ⟨rfl, hb1⟩
    have hbw1 := hb0.trans (hb1.mono hb0.size)
    go_wp2
    go_ret
    exact ⟨rfl, hbw1⟩
  have h40' : ¬ (40 : Int) < (l.length : Int) := by omega
  go_enter Try.func7, Try.ntmps7
  go_wp2_with fail
  refine (tab_awake _).mono ?_
  rintro e w1 ⟨rfl, hb1⟩
  have H1 := Lib.hid (H1.out.below hb1 H1.out.lt)
  have H2 := Lib.hid (H2.out.below hb1 H2.out.lt)
  have HR1 := Lib.hid (HR0.out.below hb1)
  have hbw1 := hb0.trans (hb1.mono hb0.size)
  clear hb1 hb0 HR0
  go_wp2_with fail
  rcases chk_cases l with ⟨hup, _⟩ | ⟨k, hk, hup, he, _⟩
  rotate_left
  · refine (New_bad a cap l w1 HR1.out (by omega) Hok.out k hk hup he).mono ?_
    rintro e w2 ⟨rfl, hb2⟩
    have hbw2 := hbw1.trans (hb2.mono hbw1.size)
    have hne : (addE (l.take k) (lab l k) != 0) = true := by simpa using he
    generalize addE (l.take k) (lab l k) = E at *
    clear he hup
    go_wp2
    go_ret
    exact ⟨rfl, hbw2⟩
  refine (New_good a cap l w1 HR1.out (by omega) Hok.out hup).mono ?_
  rintro e w2 ⟨g, rfl, htab, hb2⟩
  obtain ⟨ao, ct, mm, hT⟩ := htab.read
  have HT0 := Lib.hid hT
  have HLo0 := Lib.hid (H1.out.below hb2 H1.out.lt)
  have HHi0 := Lib.hid (H2.out.below hb2 H2.out.lt)
  have HR2 := Lib.hid (HR1.out.below hb2)
  have hbw2 := hbw1.trans (hb2.mono hbw1.size)
  have HWi := Lib.hid (fun w' h => TWithin_any g mm ct l ao lo hi w' h (by omega) Hok.out hlo hhi)
  have HRw := Lib.hid (fun w' h => rrange_any a cap l lo hi w' h (by omega) Hok.out hlo hhi)
  have HBe := Lib.hid (fun w' h => TBelow_any g mm ct l ao n w' h (by omega) Hok.out)
  have hl1 : (which (inP lo hi) l).length ≤ 1000 := by
    have := whichTo_len (inP lo hi) l l.length
    unfold which
    omega
  have hl2 : (belowL l n).length ≤ 1000 := by
    unfold belowL
    split
    · have := whichTo_len (belowP (lab l n.toNat)) l l.length
      unfold which
      omega
    · simp
  have HI1 : Hid (∀ a b ca cb w (ha : IRow w a (which (inP lo hi) l)) (hb : IRow w b (which (inP lo hi) l)), Calls Try.prog 28 #[.slice a (which (inP lo hi) l).length ca, .slice b (which (inP lo hi) l).length cb] w fun e w' => e = .returned (.bool true) ∧ Below w.heap.size w w') := Lib.hid (fun a b ca cb w ha hb => by
    have := Ints_any a b ca cb _ _ w ha hb hl1 hl1
    rw [decide_eq_true rfl] at this
    exact this)
  have HI2 : Hid (∀ a b ca cb w (ha : IRow w a (belowL l n)) (hb : IRow w b (belowL l n)), Calls Try.prog 28 #[.slice a (belowL l n).length ca, .slice b (belowL l n).length cb] w fun e w' => e = .returned (.bool true) ∧ Below w.heap.size w w') := Lib.hid (fun a b ca cb w ha hb => by
    have := Ints_any a b ca cb _ _ w ha hb hl2 hl2
    rw [decide_eq_true rfl] at this
    exact this)
  generalize hr1 : which (inP lo hi) l = r1 at *
  clear hr1 hl1 hl2 hT htab hb2 H1 H2 HR1 hup hbw1
  by_cases hn : 0 ≤ n ∧ n < l.length
  · obtain ⟨m, rfl⟩ : ∃ m : Nat, n = m := ⟨n.toNat, by omega⟩
    have hm : m < l.length := by omega
    have hr2 : belowL l m = which (belowP (lab l m)) l := by unfold belowL; rw [if_pos hn]; rfl
    have hmi : (m : Int) < (l.length : Int) := hn.2
    have hm0 : (0 : Int) ≤ (m : Int) := hn.1
    rw [hr2] at HBe HI2
    clear hr2 hn
    go_wp2
    go_loopw [12, 13] (fun s i wr => ∃ (k : Nat) (ab : Option Addr) (cp : Nat), k ≤ l.length ∧ i = .int .i64 k ∧ s = .slice ab (intsV (whichTo (belowP (lab l m)) l k)).length cp ∧ VBuf 3 w2.heap.size ab cp (intsV (whichTo (belowP (lab l m)) l k)) wr ∧ Below w2.heap.size w2 wr) (fun _ i _ => l.length - (intOf i).toNat)
    case atStart => exact ⟨0, none, 0, by omega, rfl, rfl, VBuf.nil _ _ _, Below.refl _ _⟩
    case round =>
      obtain ⟨k, ab, cp, hk, rfl, rfl, hbuf, hb⟩ := hrel
      have hbs := hb.size
      have hwl := whichTo_len (belowP (lab l m)) l k
      have hlen : (intsV (whichTo (belowP (lab l m)) l k)).length ≤ k := by unfold intsV; rw [List.length_map]; exact hwl
      by_cases hlt : k < l.length
      · obtain ⟨b, off, rfl, hbl, hr⟩ := labs_row (HR2.out.below hb) k hlt
        have hx : (lab l k).2 < 2 ^ 240 := (Hok.out _ (lab_mem l k hlt)).2
        have HRo := Lib.hid (fun w' (hS : Below wr.heap.size wr w') => hr k hlt w' hS)
        have HRn := Lib.hid (fun w' (hS : Below wr.heap.size wr w') => hr m hm w' hS)
        have HD1 := Lib.hid (fun w => rdom_any (lab l m).1 (lab l m).2 (lab l k).1 (lab l k).2 w hx)
        have Ht : Hid (intsV (whichTo (belowP (lab l m)) l (k + 1)) = intsV (whichTo (belowP (lab l m)) l k) ++ (if L.dom (lab l m).1 (lab l m).2 (lab l k).1 (lab l k).2 then [.int .i64 k] else [])) := Lib.hid (by
          rw [whichTo_succ]
          unfold intsV
          rw [List.map_append]
          show _ ++ (List.map _ (if belowP (lab l m) (lab l k) = true then _ else _)) = _
          unfold belowP
          cases L.dom (lab l m).1 (lab l m).2 (lab l k).1 (lab l k).2 <;> rfl)
        have hk' : (k : Int) < (l.length : Int) := by omega
        generalize intsV (whichTo (belowP (lab l m)) l k) = vs at *
        generalize L.dom (lab l m).1 (lab l m).2 (lab l k).1 (lab l k).2 = q at *
        generalize lab l k = x at *
        generalize hy : lab l m = y at *
        have HBuf := Lib.hid hbuf
        clear hbuf hr hwl hx hy
        cases q
        · go_wp2
          refine region_gen (VG wr.heap.size [.val (.slice (some ⟨b, off, none⟩) l.length cap), .val (.int .i64 m), .val (.pointer (some ⟨b, off + m * 31, none⟩)), .val (.agg (L.lv y.1 y.2)), .val (.slice (some ⟨b, off, none⟩) l.length cap), .val (.int .i64 k), .val (.pointer (some ⟨b, off + k * 31, none⟩)), .val (.agg (L.lv x.1 x.2)), .val (.bool false)]) (BS wr) (by kernel_rfl) (by kernel_rfl) (Below.refl _ _).drew ⟨?_, ?_, ?_, ?_, ?_, ?_, ?_, ?_, ?_, trivial⟩ ?_
          · go_light; intro listed a' w' hs hS hun hdep
            have e0 : a'.eval (.tmp 0) = .slice (some ⟨b, off, none⟩) l.length cap := (hs.out 0 (by kernel_rfl)).trans (rfl)
            refine g_val (.slice (some ⟨b, off, none⟩) l.length cap) hS rfl ?_ rfl
            have hcn := BigFrame.eval_const a'; have hfn := BigFrame.eval_func a'; clear hs hdep; generalize a'.eval = ev at *; go_simp
          · go_light; intro listed a' w' hs hS hun hdep
            have e3 : a'.eval (.tmp 3) = .int .i64 m := (hs.out 3 (by kernel_rfl)).trans (rfl)
            refine g_val (.int .i64 m) hS rfl ?_ rfl
            have hcn := BigFrame.eval_const a'; have hfn := BigFrame.eval_func a'; clear hs hdep; generalize a'.eval = ev at *; go_simp
          · go_light; intro listed a' w' hs hS hun hdep
            have e48 : a'.eval (.tmp 48) = .slice (some ⟨b, off, none⟩) l.length cap := hs.eval 0 _ 48 rfl (hdep ⟨0, .data⟩ (by simp) rfl) rfl
            have e49 : a'.eval (.tmp 49) = .int .i64 m := hs.eval 1 _ 49 rfl (hdep ⟨1, .data⟩ (by simp) rfl) rfl
            refine g_val (.pointer (some ⟨b, off + m * 31, none⟩)) hS rfl ?_ rfl
            have hcn := BigFrame.eval_const a'; have hfn := BigFrame.eval_func a'; clear hs hdep; generalize a'.eval = ev at *; go_simp
          · go_light; intro listed a' w' hs hS hun hdep
            have e50 : a'.eval (.tmp 50) = .pointer (some ⟨b, off + m * 31, none⟩) := hs.eval 2 _ 50 rfl (hdep ⟨2, .data⟩ (by simp) rfl) rfl
            exact g_val (.agg (L.lv y.1 y.2)) hS rfl (run_op_load_mid rfl e50 (HRn.out w' hS)) rfl
          · go_light; intro listed a' w' hs hS hun hdep
            have e0 : a'.eval (.tmp 0) = .slice (some ⟨b, off, none⟩) l.length cap := (hs.out 0 (by kernel_rfl)).trans (rfl)
            refine g_val (.slice (some ⟨b, off, none⟩) l.length cap) hS rfl ?_ rfl
            have hcn := BigFrame.eval_const a'; have hfn := BigFrame.eval_func a'; clear hs hdep; generalize a'.eval = ev at *; go_simp
          · go_light; intro listed a' w' hs hS hun hdep
            have e13 : a'.eval (.tmp 13) = .int .i64 k := (hs.out 13 (by kernel_rfl)).trans (rfl)
            refine g_val (.int .i64 k) hS rfl ?_ rfl
            have hcn := BigFrame.eval_const a'; have hfn := BigFrame.eval_func a'; clear hs hdep; generalize a'.eval = ev at *; go_simp
          · go_light; intro listed a' w' hs hS hun hdep
            have e52 : a'.eval (.tmp 52) = .slice (some ⟨b, off, none⟩) l.length cap := hs.eval 4 _ 52 rfl (hdep ⟨4, .data⟩ (by simp) rfl) rfl
            have e53 : a'.eval (.tmp 53) = .int .i64 k := hs.eval 5 _ 53 rfl (hdep ⟨5, .data⟩ (by simp) rfl) rfl
            refine g_val (.pointer (some ⟨b, off + k * 31, none⟩)) hS rfl ?_ rfl
            have hcn := BigFrame.eval_const a'; have hfn := BigFrame.eval_func a'; clear hs hdep; generalize a'.eval = ev at *; go_simp
          · go_light; intro listed a' w' hs hS hun hdep
            have e54 : a'.eval (.tmp 54) = .pointer (some ⟨b, off + k * 31, none⟩) := hs.eval 6 _ 54 rfl (hdep ⟨6, .data⟩ (by simp) rfl) rfl
            exact g_val (.agg (L.lv x.1 x.2)) hS rfl (run_op_load_mid rfl e54 (HRo.out w' hS)) rfl
          · go_light; intro listed a' w' hs hS hun hdep
            have e51 : a'.eval (.tmp 51) = .agg (L.lv y.1 y.2) := hs.eval 3 _ 51 rfl (hdep ⟨3, .data⟩ (by simp) rfl) rfl
            have e55 : a'.eval (.tmp 55) = .agg (L.lv x.1 x.2) := hs.eval 7 _ 55 rfl (hdep ⟨7, .data⟩ (by simp) rfl) rfl
            refine g_call 27 #[.agg (L.lv y.1 y.2), .agg (L.lv x.1 x.2)] hS rfl ?_ ?_
            · have hcn := BigFrame.eval_const a'; have hfn := BigFrame.eval_func a'; clear hs hdep; generalize a'.eval = ev at *; go_simp
            · exact c_val (HD1.out w') rfl
          · intro vs w3 hlen hV listed hall hS
            obtain ⟨v0, v1, v2, v3, v4, v5, v6, v7, v8, rfl⟩ := vs9 vs (hlen.trans rfl)
            have q0 : v0 = .slice (some ⟨b, off, none⟩) l.length cap := hV 0 _ rfl
            have q1 : v1 = .int .i64 m := hV 1 _ rfl
            have q2 : v2 = .pointer (some ⟨b, off + m * 31, none⟩) := hV 2 _ rfl
            have q3 : v3 = .agg (L.lv y.1 y.2) := hV 3 _ rfl
            have q4 : v4 = .slice (some ⟨b, off, none⟩) l.length cap := hV 4 _ rfl
            have q5 : v5 = .int .i64 k := hV 5 _ rfl
            have q6 : v6 = .pointer (some ⟨b, off + k * 31, none⟩) := hV 6 _ rfl
            have q7 : v7 = .agg (L.lv x.1 x.2) := hV 7 _ rfl
            have q8 : v8 = .bool false := hV 8 _ rfl
            have hbel : Below wr.heap.size wr w3 := hS
            subst q0 q1 q2 q3 q4 q5 q6 q7 q8
            clear hV hS hall
            simp only [lays, Act.put, List.setIfInBounds_toArray, List.set_cons_zero, List.set_cons_succ]
            have hbw := hb.trans (hbel.mono hbs)
            have HB2 := Lib.hid (HBuf.out.carry hbel)
            clear HBuf HRo HRn HD1 hbel
            go_wp2
            go_roundw
            case rel => exact ⟨k + 1, ab, cp, by omega, by go_num, by rw [Ht.out]; simp, by rw [Ht.out]; simpa using HB2.out, hbw⟩
            case measure => simp [intOf]; omega
        · go_wp2
          refine region_gen (VG wr.heap.size [.val (.slice (some ⟨b, off, none⟩) l.length cap), .val (.int .i64 m), .val (.pointer (some ⟨b, off + m * 31, none⟩)), .val (.agg (L.lv y.1 y.2)), .val (.slice (some ⟨b, off, none⟩) l.length cap), .val (.int .i64 k), .val (.pointer (some ⟨b, off + k * 31, none⟩)), .val (.agg (L.lv x.1 x.2)), .val (.bool true)]) (BS wr) (by kernel_rfl) (by kernel_rfl) (Below.refl _ _).drew ⟨?_, ?_, ?_, ?_, ?_, ?_, ?_, ?_, ?_, trivial⟩ ?_
          · go_light; intro listed a' w' hs hS hun hdep
            have e0 : a'.eval (.tmp 0) = .slice (some ⟨b, off, none⟩) l.length cap := (hs.out 0 (by kernel_rfl)).trans (rfl)
            refine g_val (.slice (some ⟨b, off, none⟩) l.length cap) hS rfl ?_ rfl
            have hcn := BigFrame.eval_const a'; have hfn := BigFrame.eval_func a'; clear hs hdep; generalize a'.eval = ev at *; go_simp
          · go_light; intro listed a' w' hs hS hun hdep
            have e3 : a'.eval (.tmp 3) = .int .i64 m := (hs.out 3 (by kernel_rfl)).trans (rfl)
            refine g_val (.int .i64 m) hS rfl ?_ rfl
            have hcn := BigFrame.eval_const a'; have hfn := BigFrame.eval_func a'; clear hs hdep; generalize a'.eval = ev at *; go_simp
          · go_light; intro listed a' w' hs hS hun hdep
            have e48 : a'.eval (.tmp 48) = .slice (some ⟨b, off, none⟩) l.length cap := hs.eval 0 _ 48 rfl (hdep ⟨0, .data⟩ (by simp) rfl) rfl
            have e49 : a'.eval (.tmp 49) = .int .i64 m := hs.eval 1 _ 49 rfl (hdep ⟨1, .data⟩ (by simp) rfl) rfl
            refine g_val (.pointer (some ⟨b, off + m * 31, none⟩)) hS rfl ?_ rfl
            have hcn := BigFrame.eval_const a'; have hfn := BigFrame.eval_func a'; clear hs hdep; generalize a'.eval = ev at *; go_simp
          · go_light; intro listed a' w' hs hS hun hdep
            have e50 : a'.eval (.tmp 50) = .pointer (some ⟨b, off + m * 31, none⟩) := hs.eval 2 _ 50 rfl (hdep ⟨2, .data⟩ (by simp) rfl) rfl
            exact g_val (.agg (L.lv y.1 y.2)) hS rfl (run_op_load_mid rfl e50 (HRn.out w' hS)) rfl
          · go_light; intro listed a' w' hs hS hun hdep
            have e0 : a'.eval (.tmp 0) = .slice (some ⟨b, off, none⟩) l.length cap := (hs.out 0 (by kernel_rfl)).trans (rfl)
            refine g_val (.slice (some ⟨b, off, none⟩) l.length cap) hS rfl ?_ rfl
            have hcn := BigFrame.eval_const a'; have hfn := BigFrame.eval_func a'; clear hs hdep; generalize a'.eval = ev at *; go_simp
          · go_light; intro listed a' w' hs hS hun hdep
            have e13 : a'.eval (.tmp 13) = .int .i64 k := (hs.out 13 (by kernel_rfl)).trans (rfl)
            refine g_val (.int .i64 k) hS rfl ?_ rfl
            have hcn := BigFrame.eval_const a'; have hfn := BigFrame.eval_func a'; clear hs hdep; generalize a'.eval = ev at *; go_simp
          · go_light; intro listed a' w' hs hS hun hdep
            have e52 : a'.eval (.tmp 52) = .slice (some ⟨b, off, none⟩) l.length cap := hs.eval 4 _ 52 rfl (hdep ⟨4, .data⟩ (by simp) rfl) rfl
            have e53 : a'.eval (.tmp 53) = .int .i64 k := hs.eval 5 _ 53 rfl (hdep ⟨5, .data⟩ (by simp) rfl) rfl
            refine g_val (.pointer (some ⟨b, off + k * 31, none⟩)) hS rfl ?_ rfl
            have hcn := BigFrame.eval_const a'; have hfn := BigFrame.eval_func a'; clear hs hdep; generalize a'.eval = ev at *; go_simp
          · go_light; intro listed a' w' hs hS hun hdep
            have e54 : a'.eval (.tmp 54) = .pointer (some ⟨b, off + k * 31, none⟩) := hs.eval 6 _ 54 rfl (hdep ⟨6, .data⟩ (by simp) rfl) rfl
            exact g_val (.agg (L.lv x.1 x.2)) hS rfl (run_op_load_mid rfl e54 (HRo.out w' hS)) rfl
          · go_light; intro listed a' w' hs hS hun hdep
            have e51 : a'.eval (.tmp 51) = .agg (L.lv y.1 y.2) := hs.eval 3 _ 51 rfl (hdep ⟨3, .data⟩ (by simp) rfl) rfl
            have e55 : a'.eval (.tmp 55) = .agg (L.lv x.1 x.2) := hs.eval 7 _ 55 rfl (hdep ⟨7, .data⟩ (by simp) rfl) rfl
            refine g_call 27 #[.agg (L.lv y.1 y.2), .agg (L.lv x.1 x.2)] hS rfl ?_ ?_
            · have hcn := BigFrame.eval_const a'; have hfn := BigFrame.eval_func a'; clear hs hdep; generalize a'.eval = ev at *; go_simp
            · exact c_val (HD1.out w') rfl
          · intro vs w3 hlen hV listed hall hS
            obtain ⟨v0, v1, v2, v3, v4, v5, v6, v7, v8, rfl⟩ := vs9 vs (hlen.trans rfl)
            have q0 : v0 = .slice (some ⟨b, off, none⟩) l.length cap := hV 0 _ rfl
            have q1 : v1 = .int .i64 m := hV 1 _ rfl
            have q2 : v2 = .pointer (some ⟨b, off + m * 31, none⟩) := hV 2 _ rfl
            have q3 : v3 = .agg (L.lv y.1 y.2) := hV 3 _ rfl
            have q4 : v4 = .slice (some ⟨b, off, none⟩) l.length cap := hV 4 _ rfl
            have q5 : v5 = .int .i64 k := hV 5 _ rfl
            have q6 : v6 = .pointer (some ⟨b, off + k * 31, none⟩) := hV 6 _ rfl
            have q7 : v7 = .agg (L.lv x.1 x.2) := hV 7 _ rfl
            have q8 : v8 = .bool true := hV 8 _ rfl
            have hbel : Below wr.heap.size wr w3 := hS
            subst q0 q1 q2 q3 q4 q5 q6 q7 q8
            clear hV hS hall
            simp only [lays, Act.put, List.setIfInBounds_toArray, List.set_cons_zero, List.set_cons_succ]
            have hbw := hb.trans (hbel.mono hbs)
            have hbuf2 := HBuf.out.carry hbel
            obtain ⟨ao', cap', w4, hrun, hbuf3, hg⟩ := append_one 3 56 _ _ Try.underlying56 Try.info_int rfl (by omega) w2.heap.size ab cp vs (w3.alloc (.cells #[.int .i64 k] 3)) (hbuf2.alloc _) (.int .i64 k) rfl w3.heap.size (by simp) 56 (by omega) (by simp; exact Nat.le_succ_of_le hbw.size)
            have hb4 : Below w2.heap.size w2 w4 := (hbw.alloc hbw.size _).grown hg (by simp; exact Nat.le_succ_of_le hbw.size) hbuf2.own
            have Hrun := Lib.hid hrun
            have HB4 := Lib.hid hbuf3
            clear hbuf2 hbuf3 HBuf HRo HRn HD1 hbel hg hrun hbw
            go_wp2_with (at_builtin; refine listAppend rfl _ _ _ _ rfl _ _ rfl rfl _ _ Hrun.out ?_)
            go_roundw
            case rel => exact ⟨k + 1, ao', cap', by omega, by go_num, by rw [Ht.out]; simp, by rw [Ht.out]; simpa using HB4.out, hb4⟩
            case measure => simp [intOf]; omega
      · obtain rfl : k = l.length := by omega
        have hl2 : (intsV (whichTo (belowP (lab l m)) l l.length)).length = (which (belowP (lab l m)) l).length := List.length_map _
        have HBl := Lib.hid (IRow.of_buf (l := whichTo (belowP (lab l m)) l l.length) hbuf)
        have hlt' : ¬ (l.length : Int) < (l.length : Int) := by omega
        rw [hl2]
        change Hid (IRow wr ab (which (belowP (lab l m)) l)) at HBl
        have HT := Lib.hid (HT0.out.below hb)
        have HLo := Lib.hid (HLo0.out.below hb HLo0.out.lt)
        have HHi := Lib.hid (HHi0.out.below hb HHi0.out.lt)
        have HR := Lib.hid (HR2.out.below hb)
        have hb := hbw2.trans (hb.mono hbw2.size)
        clear hbuf hl2 hlen hwl HT0 HLo0 HHi0 HR2
        generalize which (belowP (lab l m)) l = r2 at *
        have hn0 : Hid (0 = 0) := Lib.hid rfl
        go_wp2
        refine region_gen (VG wr.heap.size [.val (.pointer (some ⟨g, 0, none⟩)), .val (.agg (L.lv lo.1 lo.2)), .val (.agg (L.lv hi.1 hi.2)), .ints (r1), .val (.slice a l.length cap), .val (.agg (L.lv lo.1 lo.2)), .val (.agg (L.lv hi.1 hi.2)), .ints (r1), .val (.bool true), .val (.bool true), .val (.pointer (some ⟨g, 0, none⟩)), .val (.int .i64 m), .ints (r2), .val (.slice ab r2.length cp), .val (.bool true), .val (.bool true), .val (.bool true)]) (BS wr) (by kernel_rfl) (by kernel_rfl) (Below.refl _ _).drew ⟨?_, ?_, ?_, ?_, ?_, ?_, ?_, ?_, ?_, ?_, ?_, ?_, ?_, ?_, ?_, ?_, ?_, trivial⟩ ?_
        · go_light; intro listed a' w' hs hS hun hdep
          have e9 : a'.eval (.tmp 9) = .pointer (some ⟨g, 0, none⟩) := (hs.out 9 (by kernel_rfl)).trans (rfl)
          refine g_val (.pointer (some ⟨g, 0, none⟩)) hS rfl ?_ rfl
          have hcn := BigFrame.eval_const a'; have hfn := BigFrame.eval_func a'; clear hs hdep; generalize a'.eval = ev at *; go_simp
        · go_light; intro listed a' w' hs hS hun hdep
          have e5 : a'.eval (.tmp 5) = .pointer (some ⟨w.heap.size, 0, none⟩) := (hs.out 5 (by kernel_rfl)).trans (rfl)
          exact g_val (.agg (L.lv lo.1 lo.2)) hS rfl (run_op_load_lab rfl e5 (HLo.out.below hS HLo.out.lt)) rfl
        · go_light; intro listed a' w' hs hS hun hdep
          have e6 : a'.eval (.tmp 6) = .pointer (some ⟨(w.heap.size + 1), 0, none⟩) := (hs.out 6 (by kernel_rfl)).trans (rfl)
          exact g_val (.agg (L.lv hi.1 hi.2)) hS rfl (run_op_load_lab rfl e6 (HHi.out.below hS HHi.out.lt)) rfl
        · go_light; intro listed a' w' hs hS hun hdep
          have e61 : a'.eval (.tmp 61) = .pointer (some ⟨g, 0, none⟩) := hs.eval 0 _ 61 rfl (hdep ⟨0, .data⟩ (by simp) rfl) rfl
          have e62 : a'.eval (.tmp 62) = .agg (L.lv lo.1 lo.2) := hs.eval 1 _ 62 rfl (hdep ⟨1, .data⟩ (by simp) rfl) rfl
          have e63 : a'.eval (.tmp 63) = .agg (L.lv hi.1 hi.2) := hs.eval 2 _ 63 rfl (hdep ⟨2, .data⟩ (by simp) rfl) rfl
          refine g_call 29 #[.pointer (some ⟨g, 0, none⟩), .agg (L.lv lo.1 lo.2), .agg (L.lv hi.1 hi.2)] hS rfl ?_ ?_
          · have hcn := BigFrame.eval_const a'; have hfn := BigFrame.eval_func a'; clear hs hdep; generalize a'.eval = ev at *; go_simp
          · exact Calls.mono (HWi.out w' (HT.out.below hS)) fun e w'' ⟨ao, cp, he, hr, hb⟩ => ⟨_, he, ⟨ao, cp, rfl, hr⟩, hb⟩
        · go_light; intro listed a' w' hs hS hun hdep
          have e0 : a'.eval (.tmp 0) = .slice a l.length cap := (hs.out 0 (by kernel_rfl)).trans (rfl)
          refine g_val (.slice a l.length cap) hS rfl ?_ rfl
          have hcn := BigFrame.eval_const a'; have hfn := BigFrame.eval_func a'; clear hs hdep; generalize a'.eval = ev at *; go_simp
        · go_light; intro listed a' w' hs hS hun hdep
          have e5 : a'.eval (.tmp 5) = .pointer (some ⟨w.heap.size, 0, none⟩) := (hs.out 5 (by kernel_rfl)).trans (rfl)
          exact g_val (.agg (L.lv lo.1 lo.2)) hS rfl (run_op_load_lab rfl e5 (HLo.out.below hS HLo.out.lt)) rfl
        · go_light; intro listed a' w' hs hS hun hdep
          have e6 : a'.eval (.tmp 6) = .pointer (some ⟨(w.heap.size + 1), 0, none⟩) := (hs.out 6 (by kernel_rfl)).trans (rfl)
          exact g_val (.agg (L.lv hi.1 hi.2)) hS rfl (run_op_load_lab rfl e6 (HHi.out.below hS HHi.out.lt)) rfl
        · go_light; intro listed a' w' hs hS hun hdep
          have e65 : a'.eval (.tmp 65) = .slice a l.length cap := hs.eval 4 _ 65 rfl (hdep ⟨4, .data⟩ (by simp) rfl) rfl
          have e66 : a'.eval (.tmp 66) = .agg (L.lv lo.1 lo.2) := hs.eval 5 _ 66 rfl (hdep ⟨5, .data⟩ (by simp) rfl) rfl
          have e67 : a'.eval (.tmp 67) = .agg (L.lv hi.1 hi.2) := hs.eval 6 _ 67 rfl (hdep ⟨6, .data⟩ (by simp) rfl) rfl
          refine g_call 30 #[.slice a l.length cap, .agg (L.lv lo.1 lo.2), .agg (L.lv hi.1 hi.2)] hS rfl ?_ ?_
          · have hcn := BigFrame.eval_const a'; have hfn := BigFrame.eval_func a'; clear hs hdep; generalize a'.eval = ev at *; go_simp
          · exact Calls.mono (HRw.out w' (HR.out.below hS)) fun e w'' ⟨ao, cp, he, hr, hb⟩ => ⟨_, he, ⟨ao, cp, rfl, hr⟩, hb⟩
        · go_light; intro listed a' w' hs hS hun hdep
          have r64 : (.ints (r1) : GV).ok wr.heap.size (a'.eval (.tmp 64)) w' := hs.eval 3 _ 64 rfl (hdep ⟨3, .data⟩ (by simp) rfl) rfl
          obtain ⟨ao64, cp64, e64, k64⟩ := r64
          have r68 : (.ints (r1) : GV).ok wr.heap.size (a'.eval (.tmp 68)) w' := hs.eval 7 _ 68 rfl (hdep ⟨7, .data⟩ (by simp) rfl) rfl
          obtain ⟨ao68, cp68, e68, k68⟩ := r68
          refine g_call 28 #[.slice ao64 (r1).length cp64, .slice ao68 (r1).length cp68] hS rfl ?_ ?_
          · have hcn := BigFrame.eval_const a'; have hfn := BigFrame.eval_func a'; clear hs hdep; generalize a'.eval = ev at *; go_simp
          · exact c_val (HI1.out ao64 ao68 cp64 cp68 w' k64 k68) rfl
        · go_light; intro listed a' w' hs hS hun hdep
          have e69 : a'.eval (.tmp 69) = .bool true := hs.eval 8 _ 69 rfl (hdep ⟨8, .data⟩ (by simp) rfl) rfl
          refine g_val (.bool true) hS rfl ?_ rfl
          have hcn := BigFrame.eval_const a'; have hfn := BigFrame.eval_func a'; clear hs hdep; generalize a'.eval = ev at *; go_simp
        · go_light; intro listed a' w' hs hS hun hdep
          have eg : a'.eval (.tmp 70) = .bool true := hs.eval 9 _ 70 rfl (hdep ⟨9, .guard⟩ (by simp) rfl) rfl
          have e9 : a'.eval (.tmp 9) = .pointer (some ⟨g, 0, none⟩) := (hs.out 9 (by kernel_rfl)).trans (rfl)
          refine g_val (.pointer (some ⟨g, 0, none⟩)) hS (wanted_yes rfl rfl rfl eg) ?_ rfl
          have hcn := BigFrame.eval_const a'; have hfn := BigFrame.eval_func a'; clear hs hdep; generalize a'.eval = ev at *; go_simp
        · go_light; intro listed a' w' hs hS hun hdep
          have eg : a'.eval (.tmp 70) = .bool true := hs.eval 9 _ 70 rfl (hdep ⟨9, .guard⟩ (by simp) rfl) rfl
          have e3 : a'.eval (.tmp 3) = .int .i64 m := (hs.out 3 (by kernel_rfl)).trans (rfl)
          refine g_val (.int .i64 m) hS (wanted_yes rfl rfl rfl eg) ?_ rfl
          have hcn := BigFrame.eval_const a'; have hfn := BigFrame.eval_func a'; clear hs hdep; generalize a'.eval = ev at *; go_simp
        · go_light; intro listed a' w' hs hS hun hdep
          have eg : a'.eval (.tmp 70) = .bool true := hs.eval 9 _ 70 rfl (hdep ⟨9, .guard⟩ (by simp) rfl) rfl
          have e71 : a'.eval (.tmp 71) = .pointer (some ⟨g, 0, none⟩) := hs.eval 10 _ 71 rfl (hdep ⟨10, .data⟩ (by simp) rfl) rfl
          have e72 : a'.eval (.tmp 72) = .int .i64 m := hs.eval 11 _ 72 rfl (hdep ⟨11, .data⟩ (by simp) rfl) rfl
          refine g_call 31 #[.pointer (some ⟨g, 0, none⟩), .int .i64 m] hS (wanted_yes rfl rfl rfl eg) ?_ ?_
          · have hcn := BigFrame.eval_const a'; have hfn := BigFrame.eval_func a'; clear hs hdep; generalize a'.eval = ev at *; go_simp
          · exact Calls.mono (HBe.out w' (HT.out.below hS)) fun e w'' ⟨ao, cp, he, hr, hb⟩ => ⟨_, he, ⟨ao, cp, rfl, hr⟩, hb⟩
        · go_light; intro listed a' w' hs hS hun hdep
          have eg : a'.eval (.tmp 70) = .bool true := hs.eval 9 _ 70 rfl (hdep ⟨9, .guard⟩ (by simp) rfl) rfl
          have e12 : a'.eval (.tmp 12) = .slice ab r2.length cp := (hs.out 12 (by kernel_rfl)).trans (rfl)
          refine g_val (.slice ab r2.length cp) hS (wanted_yes rfl rfl rfl eg) ?_ rfl
          have hcn := BigFrame.eval_const a'; have hfn := BigFrame.eval_func a'; clear hs hdep; generalize a'.eval = ev at *; go_simp
        · go_light; intro listed a' w' hs hS hun hdep
          have eg : a'.eval (.tmp 70) = .bool true := hs.eval 9 _ 70 rfl (hdep ⟨9, .guard⟩ (by simp) rfl) rfl
          have r73 : (.ints (r2) : GV).ok wr.heap.size (a'.eval (.tmp 73)) w' := hs.eval 12 _ 73 rfl (hdep ⟨12, .data⟩ (by simp) rfl) rfl
          obtain ⟨ao73, cp73, e73, k73⟩ := r73
          have e74 : a'.eval (.tmp 74) = .slice ab r2.length cp := hs.eval 13 _ 74 rfl (hdep ⟨13, .data⟩ (by simp) rfl) rfl
          refine g_call 28 #[.slice ao73 (r2).length cp73, .slice ab r2.length cp] hS (wanted_yes rfl rfl rfl eg) ?_ ?_
          · have hcn := BigFrame.eval_const a'; have hfn := BigFrame.eval_func a'; clear hs hdep; generalize a'.eval = ev at *; go_simp
          · exact c_val (HI2.out ao73 ab cp73 cp w' k73 (HBl.out.below hS)) rfl
        · go_light; intro listed a' w' hs hS hun hdep
          have e70 : a'.eval (.tmp 70) = .bool true := hs.eval 9 _ 70 rfl (hdep ⟨9, .data⟩ (by simp) rfl) rfl
          have e75 : a'.eval (.tmp 75) = .bool true := hs.eval 14 _ 75 rfl (hdep ⟨14, .data⟩ (by simp) rfl) rfl
          refine g_val (.bool true) hS rfl ?_ rfl
          have hcn := BigFrame.eval_const a'; have hfn := BigFrame.eval_func a'; clear hs hdep; generalize a'.eval = ev at *; go_simp
        · go_light; intro listed a' w' hs hS hun hdep
          have e76 : a'.eval (.tmp 76) = .bool true := hs.eval 15 _ 76 rfl (hdep ⟨15, .data⟩ (by simp) rfl) rfl
          refine g_val (.bool true) hS rfl ?_ rfl
          have hcn := BigFrame.eval_const a'; have hfn := BigFrame.eval_func a'; clear hs hdep; generalize a'.eval = ev at *; go_simp
        · intro vs wz hlen hV listed hall hS
          obtain ⟨v0, v1, v2, v3, v4, v5, v6, v7, v8, v9, v10, v11, v12, v13, v14, v15, v16, rfl⟩ := vs17 vs (hlen.trans rfl)
          have q0 : v0 = .pointer (some ⟨g, 0, none⟩) := hV 0 _ rfl
          have q1 : v1 = .agg (L.lv lo.1 lo.2) := hV 1 _ rfl
          have q2 : v2 = .agg (L.lv hi.1 hi.2) := hV 2 _ rfl
          obtain ⟨aq3, cq3, q3, _⟩ : (.ints (r1) : GV).ok wr.heap.size v3 wz := hV 3 _ rfl
          have q4 : v4 = .slice a l.length cap := hV 4 _ rfl
          have q5 : v5 = .agg (L.lv lo.1 lo.2) := hV 5 _ rfl
          have q6 : v6 = .agg (L.lv hi.1 hi.2) := hV 6 _ rfl
          obtain ⟨aq7, cq7, q7, _⟩ : (.ints (r1) : GV).ok wr.heap.size v7 wz := hV 7 _ rfl
          have q8 : v8 = .bool true := hV 8 _ rfl
          have q9 : v9 = .bool true := hV 9 _ rfl
          have q10 : v10 = .pointer (some ⟨g, 0, none⟩) := hV 10 _ rfl
          have q11 : v11 = .int .i64 m := hV 11 _ rfl
          obtain ⟨aq12, cq12, q12, _⟩ : (.ints (r2) : GV).ok wr.heap.size v12 wz := hV 12 _ rfl
          have q13 : v13 = .slice ab r2.length cp := hV 13 _ rfl
          have q14 : v14 = .bool true := hV 14 _ rfl
          have q15 : v15 = .bool true := hV 15 _ rfl
          have q16 : v16 = .bool true := hV 16 _ rfl
          have hbel : Below wr.heap.size wr wz := hS
          subst q0 q1 q2 q3 q4 q5 q6 q7 q8 q9 q10 q11 q12 q13 q14 q15 q16
          clear hV hS hall
          simp only [lays, Act.put, List.setIfInBounds_toArray, List.set_cons_zero, List.set_cons_succ]
          have hbz := hb.trans (hbel.mono hb.size)
          go_wp2
          go_ret
          exact ⟨rfl, hbz⟩
  · have hr2 : belowL l n = [] := by unfold belowL; rw [if_neg hn]
    rw [hr2] at HBe HI2
    have HBl : Hid (IRow w2 none ([] : List Int)) := Lib.hid (fun h => by simp at h)
    have HT := HT0
    have HLo := HLo0
    have HHi := HHi0
    have HR := HR2
    have hb := hbw2
    have hnn : n < 0 ∨ (l.length : Int) ≤ n := by omega
    clear hr2 hn HT0 HLo0 HHi0 HR2 hbw2
    by_cases hl0 : l.length = 0
    · obtain rfl := List.eq_nil_of_length_eq_zero hl0
      clear hl0
      go_wp2
      refine wp_loop_rounds 1 ?_
      rw [rounds_succ]
      go_wp2
      refine region_gen (VG w2.heap.size [.val (.pointer (some ⟨g, 0, none⟩)), .val (.agg (L.lv lo.1 lo.2)), .val (.agg (L.lv hi.1 hi.2)), .ints (r1), .val (.slice a 0 cap), .val (.agg (L.lv lo.1 lo.2)), .val (.agg (L.lv hi.1 hi.2)), .ints (r1), .val (.bool true), .val (.bool true), .val (.pointer (some ⟨g, 0, none⟩)), .val (.int .i64 n), .ints (([] : List Int)), .val (.slice none 0 0), .val (.bool true), .val (.bool true), .val (.bool true)]) (BS w2) (by kernel_rfl) (by kernel_rfl) (Below.refl _ _).drew ⟨?_, ?_, ?_, ?_, ?_, ?_, ?_, ?_, ?_, ?_, ?_, ?_, ?_, ?_, ?_, ?_, ?_, trivial⟩ ?_
      · go_light; intro listed a' w' hs hS hun hdep
        have e9 : a'.eval (.tmp 9) = .pointer (some ⟨g, 0, none⟩) := (hs.out 9 (by kernel_rfl)).trans (rfl)
        refine g_val (.pointer (some ⟨g, 0, none⟩)) hS rfl ?_ rfl
        have hcn := BigFrame.eval_const a'; have hfn := BigFrame.eval_func a'; clear hs hdep; generalize a'.eval = ev at *; go_simp
      · go_light; intro listed a' w' hs hS hun hdep
        have e5 : a'.eval (.tmp 5) = .pointer (some ⟨w.heap.size, 0, none⟩) := (hs.out 5 (by kernel_rfl)).trans (rfl)
        exact g_val (.agg (L.lv lo.1 lo.2)) hS rfl (run_op_load_lab rfl e5 (HLo.out.below hS HLo.out.lt)) rfl
      · go_light; intro listed a' w' hs hS hun hdep
        have e6 : a'.eval (.tmp 6) = .pointer (some ⟨(w.heap.size + 1), 0, none⟩) := (hs.out 6 (by kernel_rfl)).trans (rfl)
        exact g_val (.agg (L.lv hi.1 hi.2)) hS rfl (run_op_load_lab rfl e6 (HHi.out.below hS HHi.out.lt)) rfl
      · go_light; intro listed a' w' hs hS hun hdep
        have e61 : a'.eval (.tmp 61) = .pointer (some ⟨g, 0, none⟩) := hs.eval 0 _ 61 rfl (hdep ⟨0, .data⟩ (by simp) rfl) rfl
        have e62 : a'.eval (.tmp 62) = .agg (L.lv lo.1 lo.2) := hs.eval 1 _ 62 rfl (hdep ⟨1, .data⟩ (by simp) rfl) rfl
        have e63 : a'.eval (.tmp 63) = .agg (L.lv hi.1 hi.2) := hs.eval 2 _ 63 rfl (hdep ⟨2, .data⟩ (by simp) rfl) rfl
        refine g_call 29 #[.pointer (some ⟨g, 0, none⟩), .agg (L.lv lo.1 lo.2), .agg (L.lv hi.1 hi.2)] hS rfl ?_ ?_
        · have hcn := BigFrame.eval_const a'; have hfn := BigFrame.eval_func a'; clear hs hdep; generalize a'.eval = ev at *; go_simp
        · exact Calls.mono (HWi.out w' (HT.out.below hS)) fun e w'' ⟨ao, cp, he, hr, hb⟩ => ⟨_, he, ⟨ao, cp, rfl, hr⟩, hb⟩
      · go_light; intro listed a' w' hs hS hun hdep
        have e0 : a'.eval (.tmp 0) = .slice a 0 cap := (hs.out 0 (by kernel_rfl)).trans (rfl)
        refine g_val (.slice a 0 cap) hS rfl ?_ rfl
        have hcn := BigFrame.eval_const a'; have hfn := BigFrame.eval_func a'; clear hs hdep; generalize a'.eval = ev at *; go_simp
      · go_light; intro listed a' w' hs hS hun hdep
        have e5 : a'.eval (.tmp 5) = .pointer (some ⟨w.heap.size, 0, none⟩) := (hs.out 5 (by kernel_rfl)).trans (rfl)
        exact g_val (.agg (L.lv lo.1 lo.2)) hS rfl (run_op_load_lab rfl e5 (HLo.out.below hS HLo.out.lt)) rfl
      · go_light; intro listed a' w' hs hS hun hdep
        have e6 : a'.eval (.tmp 6) = .pointer (some ⟨(w.heap.size + 1), 0, none⟩) := (hs.out 6 (by kernel_rfl)).trans (rfl)
        exact g_val (.agg (L.lv hi.1 hi.2)) hS rfl (run_op_load_lab rfl e6 (HHi.out.below hS HHi.out.lt)) rfl
      · go_light; intro listed a' w' hs hS hun hdep
        have e65 : a'.eval (.tmp 65) = .slice a 0 cap := hs.eval 4 _ 65 rfl (hdep ⟨4, .data⟩ (by simp) rfl) rfl
        have e66 : a'.eval (.tmp 66) = .agg (L.lv lo.1 lo.2) := hs.eval 5 _ 66 rfl (hdep ⟨5, .data⟩ (by simp) rfl) rfl
        have e67 : a'.eval (.tmp 67) = .agg (L.lv hi.1 hi.2) := hs.eval 6 _ 67 rfl (hdep ⟨6, .data⟩ (by simp) rfl) rfl
        refine g_call 30 #[.slice a 0 cap, .agg (L.lv lo.1 lo.2), .agg (L.lv hi.1 hi.2)] hS rfl ?_ ?_
        · have hcn := BigFrame.eval_const a'; have hfn := BigFrame.eval_func a'; clear hs hdep; generalize a'.eval = ev at *; go_simp
        · exact Calls.mono (HRw.out w' (HR.out.below hS)) fun e w'' ⟨ao, cp, he, hr, hb⟩ => ⟨_, he, ⟨ao, cp, rfl, hr⟩, hb⟩
      · go_light; intro listed a' w' hs hS hun hdep
        have r64 : (.ints (r1) : GV).ok w2.heap.size (a'.eval (.tmp 64)) w' := hs.eval 3 _ 64 rfl (hdep ⟨3, .data⟩ (by simp) rfl) rfl
        obtain ⟨ao64, cp64, e64, k64⟩ := r64
        have r68 : (.ints (r1) : GV).ok w2.heap.size (a'.eval (.tmp 68)) w' := hs.eval 7 _ 68 rfl (hdep ⟨7, .data⟩ (by simp) rfl) rfl
        obtain ⟨ao68, cp68, e68, k68⟩ := r68
        refine g_call 28 #[.slice ao64 (r1).length cp64, .slice ao68 (r1).length cp68] hS rfl ?_ ?_
        · have hcn := BigFrame.eval_const a'; have hfn := BigFrame.eval_func a'; clear hs hdep; generalize a'.eval = ev at *; go_simp
        · exact c_val (HI1.out ao64 ao68 cp64 cp68 w' k64 k68) rfl
      · go_light; intro listed a' w' hs hS hun hdep
        have e69 : a'.eval (.tmp 69) = .bool true := hs.eval 8 _ 69 rfl (hdep ⟨8, .data⟩ (by simp) rfl) rfl
        refine g_val (.bool true) hS rfl ?_ rfl
        have hcn := BigFrame.eval_const a'; have hfn := BigFrame.eval_func a'; clear hs hdep; generalize a'.eval = ev at *; go_simp
      · go_light; intro listed a' w' hs hS hun hdep
        have eg : a'.eval (.tmp 70) = .bool true := hs.eval 9 _ 70 rfl (hdep ⟨9, .guard⟩ (by simp) rfl) rfl
        have e9 : a'.eval (.tmp 9) = .pointer (some ⟨g, 0, none⟩) := (hs.out 9 (by kernel_rfl)).trans (rfl)
        refine g_val (.pointer (some ⟨g, 0, none⟩)) hS (wanted_yes rfl rfl rfl eg) ?_ rfl
        have hcn := BigFrame.eval_const a'; have hfn := BigFrame.eval_func a'; clear hs hdep; generalize a'.eval = ev at *; go_simp
      · go_light; intro listed a' w' hs hS hun hdep
        have eg : a'.eval (.tmp 70) = .bool true := hs.eval 9 _ 70 rfl (hdep ⟨9, .guard⟩ (by simp) rfl) rfl
        have e3 : a'.eval (.tmp 3) = .int .i64 n := (hs.out 3 (by kernel_rfl)).trans (rfl)
        refine g_val (.int .i64 n) hS (wanted_yes rfl rfl rfl eg) ?_ rfl
        have hcn := BigFrame.eval_const a'; have hfn := BigFrame.eval_func a'; clear hs hdep; generalize a'.eval = ev at *; go_simp
      · go_light; intro listed a' w' hs hS hun hdep
        have eg : a'.eval (.tmp 70) = .bool true := hs.eval 9 _ 70 rfl (hdep ⟨9, .guard⟩ (by simp) rfl) rfl
        have e71 : a'.eval (.tmp 71) = .pointer (some ⟨g, 0, none⟩) := hs.eval 10 _ 71 rfl (hdep ⟨10, .data⟩ (by simp) rfl) rfl
        have e72 : a'.eval (.tmp 72) = .int .i64 n := hs.eval 11 _ 72 rfl (hdep ⟨11, .data⟩ (by simp) rfl) rfl
        refine g_call 31 #[.pointer (some ⟨g, 0, none⟩), .int .i64 n] hS (wanted_yes rfl rfl rfl eg) ?_ ?_
        · have hcn := BigFrame.eval_const a'; have hfn := BigFrame.eval_func a'; clear hs hdep; generalize a'.eval = ev at *; go_simp
        · exact Calls.mono (HBe.out w' (HT.out.below hS)) fun e w'' ⟨ao, cp, he, hr, hb⟩ => ⟨_, he, ⟨ao, cp, rfl, hr⟩, hb⟩
      · go_light; intro listed a' w' hs hS hun hdep
        have eg : a'.eval (.tmp 70) = .bool true := hs.eval 9 _ 70 rfl (hdep ⟨9, .guard⟩ (by simp) rfl) rfl
        have e12 : a'.eval (.tmp 12) = .slice none 0 0 := (hs.out 12 (by kernel_rfl)).trans (rfl)
        refine g_val (.slice none 0 0) hS (wanted_yes rfl rfl rfl eg) ?_ rfl
        have hcn := BigFrame.eval_const a'; have hfn := BigFrame.eval_func a'; clear hs hdep; generalize a'.eval = ev at *; go_simp
      · go_light; intro listed a' w' hs hS hun hdep
        have eg : a'.eval (.tmp 70) = .bool true := hs.eval 9 _ 70 rfl (hdep ⟨9, .guard⟩ (by simp) rfl) rfl
        have r73 : (.ints (([] : List Int)) : GV).ok w2.heap.size (a'.eval (.tmp 73)) w' := hs.eval 12 _ 73 rfl (hdep ⟨12, .data⟩ (by simp) rfl) rfl
        obtain ⟨ao73, cp73, e73, k73⟩ := r73
        have e74 : a'.eval (.tmp 74) = .slice none 0 0 := hs.eval 13 _ 74 rfl (hdep ⟨13, .data⟩ (by simp) rfl) rfl
        refine g_call 28 #[.slice ao73 (([] : List Int)).length cp73, .slice none 0 0] hS (wanted_yes rfl rfl rfl eg) ?_ ?_
        · have hcn := BigFrame.eval_const a'; have hfn := BigFrame.eval_func a'; clear hs hdep; generalize a'.eval = ev at *; go_simp
        · exact c_val (HI2.out ao73 none cp73 0 w' k73 (HBl.out.below hS)) rfl
      · go_light; intro listed a' w' hs hS hun hdep
        have e70 : a'.eval (.tmp 70) = .bool true := hs.eval 9 _ 70 rfl (hdep ⟨9, .data⟩ (by simp) rfl) rfl
        have e75 : a'.eval (.tmp 75) = .bool true := hs.eval 14 _ 75 rfl (hdep ⟨14, .data⟩ (by simp) rfl) rfl
        refine g_val (.bool true) hS rfl ?_ rfl
        have hcn := BigFrame.eval_const a'; have hfn := BigFrame.eval_func a'; clear hs hdep; generalize a'.eval = ev at *; go_simp
      · go_light; intro listed a' w' hs hS hun hdep
        have e76 : a'.eval (.tmp 76) = .bool true := hs.eval 15 _ 76 rfl (hdep ⟨15, .data⟩ (by simp) rfl) rfl
        refine g_val (.bool true) hS rfl ?_ rfl
        have hcn := BigFrame.eval_const a'; have hfn := BigFrame.eval_func a'; clear hs hdep; generalize a'.eval = ev at *; go_simp
      · intro vs wz hlen hV listed hall hS
        obtain ⟨v0, v1, v2, v3, v4, v5, v6, v7, v8, v9, v10, v11, v12, v13, v14, v15, v16, rfl⟩ := vs17 vs (hlen.trans rfl)
        have q0 : v0 = .pointer (some ⟨g, 0, none⟩) := hV 0 _ rfl
        have q1 : v1 = .agg (L.lv lo.1 lo.2) := hV 1 _ rfl
        have q2 : v2 = .agg (L.lv hi.1 hi.2) := hV 2 _ rfl
        obtain ⟨aq3, cq3, q3, _⟩ : (.ints (r1) : GV).ok w2.heap.size v3 wz := hV 3 _ rfl
        have q4 : v4 = .slice a 0 cap := hV 4 _ rfl
        have q5 : v5 = .agg (L.lv lo.1 lo.2) := hV 5 _ rfl
        have q6 : v6 = .agg (L.lv hi.1 hi.2) := hV 6 _ rfl
        obtain ⟨aq7, cq7, q7, _⟩ : (.ints (r1) : GV).ok w2.heap.size v7 wz := hV 7 _ rfl
        have q8 : v8 = .bool true := hV 8 _ rfl
        have q9 : v9 = .bool true := hV 9 _ rfl
        have q10 : v10 = .pointer (some ⟨g, 0, none⟩) := hV 10 _ rfl
        have q11 : v11 = .int .i64 n := hV 11 _ rfl
        obtain ⟨aq12, cq12, q12, _⟩ : (.ints (([] : List Int)) : GV).ok w2.heap.size v12 wz := hV 12 _ rfl
        have q13 : v13 = .slice none 0 0 := hV 13 _ rfl
        have q14 : v14 = .bool true := hV 14 _ rfl
        have q15 : v15 = .bool true := hV 15 _ rfl
        have q16 : v16 = .bool true := hV 16 _ rfl
        have hbel : Below w2.heap.size w2 wz := hS
        subst q0 q1 q2 q3 q4 q5 q6 q7 q8 q9 q10 q11 q12 q13 q14 q15 q16
        clear hV hS hall
        simp only [lays, Act.put, List.setIfInBounds_toArray, List.set_cons_zero, List.set_cons_succ]
        have hbz := hb.trans (hbel.mono hb.size)
        go_wp2
        go_ret
        exact ⟨rfl, hbz⟩
    · have hl0' : (0 : Int) < (l.length : Int) := by omega
      by_cases hn0 : n < 0
      · have hn1 : ¬ (0 : Int) ≤ n := by omega
        go_wp2
        refine wp_loop_rounds 1 ?_
        rw [rounds_succ]
        go_wp2
        refine region_gen (VG w2.heap.size [.val (.pointer (some ⟨g, 0, none⟩)), .val (.agg (L.lv lo.1 lo.2)), .val (.agg (L.lv hi.1 hi.2)), .ints (r1), .val (.slice a l.length cap), .val (.agg (L.lv lo.1 lo.2)), .val (.agg (L.lv hi.1 hi.2)), .ints (r1), .val (.bool true), .val (.bool true), .val (.pointer (some ⟨g, 0, none⟩)), .val (.int .i64 n), .ints (([] : List Int)), .val (.slice none 0 0), .val (.bool true), .val (.bool true), .val (.bool true)]) (BS w2) (by kernel_rfl) (by kernel_rfl) (Below.refl _ _).drew ⟨?_, ?_, ?_, ?_, ?_, ?_, ?_, ?_, ?_, ?_, ?_, ?_, ?_, ?_, ?_, ?_, ?_, trivial⟩ ?_
        · go_light; intro listed a' w' hs hS hun hdep
          have e9 : a'.eval (.tmp 9) = .pointer (some ⟨g, 0, none⟩) := (hs.out 9 (by kernel_rfl)).trans (rfl)
          refine g_val (.pointer (some ⟨g, 0, none⟩)) hS rfl ?_ rfl
          have hcn := BigFrame.eval_const a'; have hfn := BigFrame.eval_func a'; clear hs hdep; generalize a'.eval = ev at *; go_simp
        · go_light; intro listed a' w' hs hS hun hdep
          have e5 : a'.eval (.tmp 5) = .pointer (some ⟨w.heap.size, 0, none⟩) := (hs.out 5 (by kernel_rfl)).trans (rfl)
          exact g_val (.agg (L.lv lo.1 lo.2)) hS rfl (run_op_load_lab rfl e5 (HLo.out.below hS HLo.out.lt)) rfl
        · go_light; intro listed a' w' hs hS hun hdep
          have e6 : a'.eval (.tmp 6) = .pointer (some ⟨(w.heap.size + 1), 0, none⟩) := (hs.out 6 (by kernel_rfl)).trans (rfl)
          exact g_val (.agg (L.lv hi.1 hi.2)) hS rfl (run_op_load_lab rfl e6 (HHi.out.below hS HHi.out.lt)) rfl
        · go_light; intro listed a' w' hs hS hun hdep
          have e61 : a'.eval (.tmp 61) = .pointer (some ⟨g, 0, none⟩) := hs.eval 0 _ 61 rfl (hdep ⟨0, .data⟩ (by simp) rfl) rfl
          have e62 : a'.eval (.tmp 62) = .agg (L.lv lo.1 lo.2) := hs.eval 1 _ 62 rfl (hdep ⟨1, .data⟩ (by simp) rfl) rfl
          have e63 : a'.eval (.tmp 63) = .agg (L.lv hi.1 hi.2) := hs.eval 2 _ 63 rfl (hdep ⟨2, .data⟩ (by simp) rfl) rfl
          refine g_call 29 #[.pointer (some ⟨g, 0, none⟩), .agg (L.lv lo.1 lo.2), .agg (L.lv hi.1 hi.2)] hS rfl ?_ ?_
          · have hcn := BigFrame.eval_const a'; have hfn := BigFrame.eval_func a'; clear hs hdep; generalize a'.eval = ev at *; go_simp
          · exact Calls.mono (HWi.out w' (HT.out.below hS)) fun e w'' ⟨ao, cp, he, hr, hb⟩ => ⟨_, he, ⟨ao, cp, rfl, hr⟩, hb⟩
        · go_light; intro listed a' w' hs hS hun hdep
          have e0 : a'.eval (.tmp 0) = .slice a l.length cap := (hs.out 0 (by kernel_rfl)).trans (rfl)
          refine g_val (.slice a l.length cap) hS rfl ?_ rfl
          have hcn := BigFrame.eval_const a'; have hfn := BigFrame.eval_func a'; clear hs hdep; generalize a'.eval = ev at *; go_simp
        · go_light; intro listed a' w' hs hS hun hdep
          have e5 : a'.eval (.tmp 5) = .pointer (some ⟨w.heap.size, 0, none⟩) := (hs.out 5 (by kernel_rfl)).trans (rfl)
          exact g_val (.agg (L.lv lo.1 lo.2)) hS rfl (run_op_load_lab rfl e5 (HLo.out.below hS HLo.out.lt)) rfl
        · go_light; intro listed a' w' hs hS hun hdep
          have e6 : a'.eval (.tmp 6) = .pointer (some ⟨(w.heap.size + 1), 0, none⟩) := (hs.out 6 (by kernel_rfl)).trans (rfl)
          exact g_val (.agg (L.lv hi.1 hi.2)) hS rfl (run_op_load_lab rfl e6 (HHi.out.below hS HHi.out.lt)) rfl
        · go_light; intro listed a' w' hs hS hun hdep
          have e65 : a'.eval (.tmp 65) = .slice a l.length cap := hs.eval 4 _ 65 rfl (hdep ⟨4, .data⟩ (by simp) rfl) rfl
          have e66 : a'.eval (.tmp 66) = .agg (L.lv lo.1 lo.2) := hs.eval 5 _ 66 rfl (hdep ⟨5, .data⟩ (by simp) rfl) rfl
          have e67 : a'.eval (.tmp 67) = .agg (L.lv hi.1 hi.2) := hs.eval 6 _ 67 rfl (hdep ⟨6, .data⟩ (by simp) rfl) rfl
          refine g_call 30 #[.slice a l.length cap, .agg (L.lv lo.1 lo.2), .agg (L.lv hi.1 hi.2)] hS rfl ?_ ?_
          · have hcn := BigFrame.eval_const a'; have hfn := BigFrame.eval_func a'; clear hs hdep; generalize a'.eval = ev at *; go_simp
          · exact Calls.mono (HRw.out w' (HR.out.below hS)) fun e w'' ⟨ao, cp, he, hr, hb⟩ => ⟨_, he, ⟨ao, cp, rfl, hr⟩, hb⟩
        · go_light; intro listed a' w' hs hS hun hdep
          have r64 : (.ints (r1) : GV).ok w2.heap.size (a'.eval (.tmp 64)) w' := hs.eval 3 _ 64 rfl (hdep ⟨3, .data⟩ (by simp) rfl) rfl
          obtain ⟨ao64, cp64, e64, k64⟩ := r64
          have r68 : (.ints (r1) : GV).ok w2.heap.size (a'.eval (.tmp 68)) w' := hs.eval 7 _ 68 rfl (hdep ⟨7, .data⟩ (by simp) rfl) rfl
          obtain ⟨ao68, cp68, e68, k68⟩ := r68
          refine g_call 28 #[.slice ao64 (r1).length cp64, .slice ao68 (r1).length cp68] hS rfl ?_ ?_
          · have hcn := BigFrame.eval_const a'; have hfn := BigFrame.eval_func a'; clear hs hdep; generalize a'.eval = ev at *; go_simp
          · exact c_val (HI1.out ao64 ao68 cp64 cp68 w' k64 k68) rfl
        · go_light; intro listed a' w' hs hS hun hdep
          have e69 : a'.eval (.tmp 69) = .bool true := hs.eval 8 _ 69 rfl (hdep ⟨8, .data⟩ (by simp) rfl) rfl
          refine g_val (.bool true) hS rfl ?_ rfl
          have hcn := BigFrame.eval_const a'; have hfn := BigFrame.eval_func a'; clear hs hdep; generalize a'.eval = ev at *; go_simp
        · go_light; intro listed a' w' hs hS hun hdep
          have eg : a'.eval (.tmp 70) = .bool true := hs.eval 9 _ 70 rfl (hdep ⟨9, .guard⟩ (by simp) rfl) rfl
          have e9 : a'.eval (.tmp 9) = .pointer (some ⟨g, 0, none⟩) := (hs.out 9 (by kernel_rfl)).trans (rfl)
          refine g_val (.pointer (some ⟨g, 0, none⟩)) hS (wanted_yes rfl rfl rfl eg) ?_ rfl
          have hcn := BigFrame.eval_const a'; have hfn := BigFrame.eval_func a'; clear hs hdep; generalize a'.eval = ev at *; go_simp
        · go_light; intro listed a' w' hs hS hun hdep
          have eg : a'.eval (.tmp 70) = .bool true := hs.eval 9 _ 70 rfl (hdep ⟨9, .guard⟩ (by simp) rfl) rfl
          have e3 : a'.eval (.tmp 3) = .int .i64 n := (hs.out 3 (by kernel_rfl)).trans (rfl)
          refine g_val (.int .i64 n) hS (wanted_yes rfl rfl rfl eg) ?_ rfl
          have hcn := BigFrame.eval_const a'; have hfn := BigFrame.eval_func a'; clear hs hdep; generalize a'.eval = ev at *; go_simp
        · go_light; intro listed a' w' hs hS hun hdep
          have eg : a'.eval (.tmp 70) = .bool true := hs.eval 9 _ 70 rfl (hdep ⟨9, .guard⟩ (by simp) rfl) rfl
          have e71 : a'.eval (.tmp 71) = .pointer (some ⟨g, 0, none⟩) := hs.eval 10 _ 71 rfl (hdep ⟨10, .data⟩ (by simp) rfl) rfl
          have e72 : a'.eval (.tmp 72) = .int .i64 n := hs.eval 11 _ 72 rfl (hdep ⟨11, .data⟩ (by simp) rfl) rfl
          refine g_call 31 #[.pointer (some ⟨g, 0, none⟩), .int .i64 n] hS (wanted_yes rfl rfl rfl eg) ?_ ?_
          · have hcn := BigFrame.eval_const a'; have hfn := BigFrame.eval_func a'; clear hs hdep; generalize a'.eval = ev at *; go_simp
          · exact Calls.mono (HBe.out w' (HT.out.below hS)) fun e w'' ⟨ao, cp, he, hr, hb⟩ => ⟨_, he, ⟨ao, cp, rfl, hr⟩, hb⟩
        · go_light; intro listed a' w' hs hS hun hdep
          have eg : a'.eval (.tmp 70) = .bool true := hs.eval 9 _ 70 rfl (hdep ⟨9, .guard⟩ (by simp) rfl) rfl
          have e12 : a'.eval (.tmp 12) = .slice none 0 0 := (hs.out 12 (by kernel_rfl)).trans (rfl)
          refine g_val (.slice none 0 0) hS (wanted_yes rfl rfl rfl eg) ?_ rfl
          have hcn := BigFrame.eval_const a'; have hfn := BigFrame.eval_func a'; clear hs hdep; generalize a'.eval = ev at *; go_simp
        · go_light; intro listed a' w' hs hS hun hdep
          have eg : a'.eval (.tmp 70) = .bool true := hs.eval 9 _ 70 rfl (hdep ⟨9, .guard⟩ (by simp) rfl) rfl
          have r73 : (.ints (([] : List Int)) : GV).ok w2.heap.size (a'.eval (.tmp 73)) w' := hs.eval 12 _ 73 rfl (hdep ⟨12, .data⟩ (by simp) rfl) rfl
          obtain ⟨ao73, cp73, e73, k73⟩ := r73
          have e74 : a'.eval (.tmp 74) = .slice none 0 0 := hs.eval 13 _ 74 rfl (hdep ⟨13, .data⟩ (by simp) rfl) rfl
          refine g_call 28 #[.slice ao73 (([] : List Int)).length cp73, .slice none 0 0] hS (wanted_yes rfl rfl rfl eg) ?_ ?_
          · have hcn := BigFrame.eval_const a'; have hfn := BigFrame.eval_func a'; clear hs hdep; generalize a'.eval = ev at *; go_simp
          · exact c_val (HI2.out ao73 none cp73 0 w' k73 (HBl.out.below hS)) rfl
        · go_light; intro listed a' w' hs hS hun hdep
          have e70 : a'.eval (.tmp 70) = .bool true := hs.eval 9 _ 70 rfl (hdep ⟨9, .data⟩ (by simp) rfl) rfl
          have e75 : a'.eval (.tmp 75) = .bool true := hs.eval 14 _ 75 rfl (hdep ⟨14, .data⟩ (by simp) rfl) rfl
          refine g_val (.bool true) hS rfl ?_ rfl
          have hcn := BigFrame.eval_const a'; have hfn := BigFrame.eval_func a'; clear hs hdep; generalize a'.eval = ev at *; go_simp
        · go_light; intro listed a' w' hs hS hun hdep
          have e76 : a'.eval (.tmp 76) = .bool true := hs.eval 15 _ 76 rfl (hdep ⟨15, .data⟩ (by simp) rfl) rfl
          refine g_val (.bool true) hS rfl ?_ rfl
          have hcn := BigFrame.eval_const a'; have hfn := BigFrame.eval_func a'; clear hs hdep; generalize a'.eval = ev at *; go_simp
        · intro vs wz hlen hV listed hall hS
          obtain ⟨v0, v1, v2, v3, v4, v5, v6, v7, v8, v9, v10, v11, v12, v13, v14, v15, v16, rfl⟩ := vs17 vs (hlen.trans rfl)
          have q0 : v0 = .pointer (some ⟨g, 0, none⟩) := hV 0 _ rfl
          have q1 : v1 = .agg (L.lv lo.1 lo.2) := hV 1 _ rfl
          have q2 : v2 = .agg (L.lv hi.1 hi.2) := hV 2 _ rfl
          obtain ⟨aq3, cq3, q3, _⟩ : (.ints (r1) : GV).ok w2.heap.size v3 wz := hV 3 _ rfl
          have q4 : v4 = .slice a l.length cap := hV 4 _ rfl
          have q5 : v5 = .agg (L.lv lo.1 lo.2) := hV 5 _ rfl
          have q6 : v6 = .agg (L.lv hi.1 hi.2) := hV 6 _ rfl
          obtain ⟨aq7, cq7, q7, _⟩ : (.ints (r1) : GV).ok w2.heap.size v7 wz := hV 7 _ rfl
          have q8 : v8 = .bool true := hV 8 _ rfl
          have q9 : v9 = .bool true := hV 9 _ rfl
          have q10 : v10 = .pointer (some ⟨g, 0, none⟩) := hV 10 _ rfl
          have q11 : v11 = .int .i64 n := hV 11 _ rfl
          obtain ⟨aq12, cq12, q12, _⟩ : (.ints (([] : List Int)) : GV).ok w2.heap.size v12 wz := hV 12 _ rfl
          have q13 : v13 = .slice none 0 0 := hV 13 _ rfl
          have q14 : v14 = .bool true := hV 14 _ rfl
          have q15 : v15 = .bool true := hV 15 _ rfl
          have q16 : v16 = .bool true := hV 16 _ rfl
          have hbel : Below w2.heap.size w2 wz := hS
          subst q0 q1 q2 q3 q4 q5 q6 q7 q8 q9 q10 q11 q12 q13 q14 q15 q16
          clear hV hS hall
          simp only [lays, Act.put, List.setIfInBounds_toArray, List.set_cons_zero, List.set_cons_succ]
          have hbz := hb.trans (hbel.mono hb.size)
          go_wp2
          go_ret
          exact ⟨rfl, hbz⟩
      · have hn1 : (0 : Int) ≤ n := by omega
        have hn2 : ¬ n < (l.length : Int) := by omega
        go_wp2
        refine wp_loop_rounds 1 ?_
        rw [rounds_succ]
        go_wp2
        refine region_gen (VG w2.heap.size [.val (.pointer (some ⟨g, 0, none⟩)), .val (.agg (L.lv lo.1 lo.2)), .val (.agg (L.lv hi.1 hi.2)), .ints (r1), .val (.slice a l.length cap), .val (.agg (L.lv lo.1 lo.2)), .val (.agg (L.lv hi.1 hi.2)), .ints (r1), .val (.bool true), .val (.bool true), .val (.pointer (some ⟨g, 0, none⟩)), .val (.int .i64 n), .ints (([] : List Int)), .val (.slice none 0 0), .val (.bool true), .val (.bool true), .val (.bool true)]) (BS w2) (by kernel_rfl) (by kernel_rfl) (Below.refl _ _).drew ⟨?_, ?_, ?_, ?_, ?_, ?_, ?_, ?_, ?_, ?_, ?_, ?_, ?_, ?_, ?_, ?_, ?_, trivial⟩ ?_
        · go_light; intro listed a' w' hs hS hun hdep
          have e9 : a'.eval (.tmp 9) = .pointer (some ⟨g, 0, none⟩) := (hs.out 9 (by kernel_rfl)).trans (rfl)
          refine g_val (.pointer (some ⟨g, 0, none⟩)) hS rfl ?_ rfl
          have hcn := BigFrame.eval_const a'; have hfn := BigFrame.eval_func a'; clear hs hdep; generalize a'.eval = ev at *; go_simp
        · go_light; intro listed a' w' hs hS hun hdep
          have e5 : a'.eval (.tmp 5) = .pointer (some ⟨w.heap.size, 0, none⟩) := (hs.out 5 (by kernel_rfl)).trans (rfl)
          exact g_val (.agg (L.lv lo.1 lo.2)) hS rfl (run_op_load_lab rfl e5 (HLo.out.below hS HLo.out.lt)) rfl
        · go_light; intro listed a' w' hs hS hun hdep
          have e6 : a'.eval (.tmp 6) = .pointer (some ⟨(w.heap.size + 1), 0, none⟩) := (hs.out 6 (by kernel_rfl)).trans (rfl)
          exact g_val (.agg (L.lv hi.1 hi.2)) hS rfl (run_op_load_lab rfl e6 (HHi.out.below hS HHi.out.lt)) rfl
        · go_light; intro listed a' w' hs hS hun hdep
          have e61 : a'.eval (.tmp 61) = .pointer (some ⟨g, 0, none⟩) := hs.eval 0 _ 61 rfl (hdep ⟨0, .data⟩ (by simp) rfl) rfl
          have e62 : a'.eval (.tmp 62) = .agg (L.lv lo.1 lo.2) := hs.eval 1 _ 62 rfl (hdep ⟨1, .data⟩ (by simp) rfl) rfl
          have e63 : a'.eval (.tmp 63) = .agg (L.lv hi.1 hi.2) := hs.eval 2 _ 63 rfl (hdep ⟨2, .data⟩ (by simp) rfl) rfl
          refine g_call 29 #[.pointer (some ⟨g, 0, none⟩), .agg (L.lv lo.1 lo.2), .agg (L.lv hi.1 hi.2)] hS rfl ?_ ?_
          · have hcn := BigFrame.eval_const a'; have hfn := BigFrame.eval_func a'; clear hs hdep; generalize a'.eval = ev at *; go_simp
          · exact Calls.mono (HWi.out w' (HT.out.below hS)) fun e w'' ⟨ao, cp, he, hr, hb⟩ => ⟨_, he, ⟨ao, cp, rfl, hr⟩, hb⟩
        · go_light; intro listed a' w' hs hS hun hdep
          have e0 : a'.eval (.tmp 0) = .slice a l.length cap := (hs.out 0 (by kernel_rfl)).trans (rfl)
          refine g_val (.slice a l.length cap) hS rfl ?_ rfl
          have hcn := BigFrame.eval_const a'; have hfn := BigFrame.eval_func a'; clear hs hdep; generalize a'.eval = ev at *; go_simp
        · go_light; intro listed a' w' hs hS hun hdep
          have e5 : a'.eval (.tmp 5) = .pointer (some ⟨w.heap.size, 0, none⟩) := (hs.out 5 (by kernel_rfl)).trans (rfl)
          exact g_val (.agg (L.lv lo.1 lo.2)) hS rfl (run_op_load_lab rfl e5 (HLo.out.below hS HLo.out.lt)) rfl
        · go_light; intro listed a' w' hs hS hun hdep
          have e6 : a'.eval (.tmp 6) = .pointer (some ⟨(w.heap.size + 1), 0, none⟩) := (hs.out 6 (by kernel_rfl)).trans (rfl)
          exact g_val (.agg (L.lv hi.1 hi.2)) hS rfl (run_op_load_lab rfl e6 (HHi.out.below hS HHi.out.lt)) rfl
        · go_light; intro listed a' w' hs hS hun hdep
          have e65 : a'.eval (.tmp 65) = .slice a l.length cap := hs.eval 4 _ 65 rfl (hdep ⟨4, .data⟩ (by simp) rfl) rfl
          have e66 : a'.eval (.tmp 66) = .agg (L.lv lo.1 lo.2) := hs.eval 5 _ 66 rfl (hdep ⟨5, .data⟩ (by simp) rfl) rfl
          have e67 : a'.eval (.tmp 67) = .agg (L.lv hi.1 hi.2) := hs.eval 6 _ 67 rfl (hdep ⟨6, .data⟩ (by simp) rfl) rfl
          refine g_call 30 #[.slice a l.length cap, .agg (L.lv lo.1 lo.2), .agg (L.lv hi.1 hi.2)] hS rfl ?_ ?_
          · have hcn := BigFrame.eval_const a'; have hfn := BigFrame.eval_func a'; clear hs hdep; generalize a'.eval = ev at *; go_simp
          · exact Calls.mono (HRw.out w' (HR.out.below hS)) fun e w'' ⟨ao, cp, he, hr, hb⟩ => ⟨_, he, ⟨ao, cp, rfl, hr⟩, hb⟩
        · go_light; intro listed a' w' hs hS hun hdep
          have r64 : (.ints (r1) : GV).ok w2.heap.size (a'.eval (.tmp 64)) w' := hs.eval 3 _ 64 rfl (hdep ⟨3, .data⟩ (by simp) rfl) rfl
          obtain ⟨ao64, cp64, e64, k64⟩ := r64
          have r68 : (.ints (r1) : GV).ok w2.heap.size (a'.eval (.tmp 68)) w' := hs.eval 7 _ 68 rfl (hdep ⟨7, .data⟩ (by simp) rfl) rfl
          obtain ⟨ao68, cp68, e68, k68⟩ := r68
          refine g_call 28 #[.slice ao64 (r1).length cp64, .slice ao68 (r1).length cp68] hS rfl ?_ ?_
          · have hcn := BigFrame.eval_const a'; have hfn := BigFrame.eval_func a'; clear hs hdep; generalize a'.eval = ev at *; go_simp
          · exact c_val (HI1.out ao64 ao68 cp64 cp68 w' k64 k68) rfl
        · go_light; intro listed a' w' hs hS hun hdep
          have e69 : a'.eval (.tmp 69) = .bool true := hs.eval 8 _ 69 rfl (hdep ⟨8, .data⟩ (by simp) rfl) rfl
          refine g_val (.bool true) hS rfl ?_ rfl
          have hcn := BigFrame.eval_const a'; have hfn := BigFrame.eval_func a'; clear hs hdep; generalize a'.eval = ev at *; go_simp
        · go_light; intro listed a' w' hs hS hun hdep
          have eg : a'.eval (.tmp 70) = .bool true := hs.eval 9 _ 70 rfl (hdep ⟨9, .guard⟩ (by simp) rfl) rfl
          have e9 : a'.eval (.tmp 9) = .pointer (some ⟨g, 0, none⟩) := (hs.out 9 (by kernel_rfl)).trans (rfl)
          refine g_val (.pointer (some ⟨g, 0, none⟩)) hS (wanted_yes rfl rfl rfl eg) ?_ rfl
          have hcn := BigFrame.eval_const a'; have hfn := BigFrame.eval_func a'; clear hs hdep; generalize a'.eval = ev at *; go_simp
        · go_light; intro listed a' w' hs hS hun hdep
          have eg : a'.eval (.tmp 70) = .bool true := hs.eval 9 _ 70 rfl (hdep ⟨9, .guard⟩ (by simp) rfl) rfl
          have e3 : a'.eval (.tmp 3) = .int .i64 n := (hs.out 3 (by kernel_rfl)).trans (rfl)
          refine g_val (.int .i64 n) hS (wanted_yes rfl rfl rfl eg) ?_ rfl
          have hcn := BigFrame.eval_const a'; have hfn := BigFrame.eval_func a'; clear hs hdep; generalize a'.eval = ev at *; go_simp
        · go_light; intro listed a' w' hs hS hun hdep
          have eg : a'.eval (.tmp 70) = .bool true := hs.eval 9 _ 70 rfl (hdep ⟨9, .guard⟩ (by simp) rfl) rfl
          have e71 : a'.eval (.tmp 71) = .pointer (some ⟨g, 0, none⟩) := hs.eval 10 _ 71 rfl (hdep ⟨10, .data⟩ (by simp) rfl) rfl
          have e72 : a'.eval (.tmp 72) = .int .i64 n := hs.eval 11 _ 72 rfl (hdep ⟨11, .data⟩ (by simp) rfl) rfl
          refine g_call 31 #[.pointer (some ⟨g, 0, none⟩), .int .i64 n] hS (wanted_yes rfl rfl rfl eg) ?_ ?_
          · have hcn := BigFrame.eval_const a'; have hfn := BigFrame.eval_func a'; clear hs hdep; generalize a'.eval = ev at *; go_simp
          · exact Calls.mono (HBe.out w' (HT.out.below hS)) fun e w'' ⟨ao, cp, he, hr, hb⟩ => ⟨_, he, ⟨ao, cp, rfl, hr⟩, hb⟩
        · go_light; intro listed a' w' hs hS hun hdep
          have eg : a'.eval (.tmp 70) = .bool true := hs.eval 9 _ 70 rfl (hdep ⟨9, .guard⟩ (by simp) rfl) rfl
          have e12 : a'.eval (.tmp 12) = .slice none 0 0 := (hs.out 12 (by kernel_rfl)).trans (rfl)
          refine g_val (.slice none 0 0) hS (wanted_yes rfl rfl rfl eg) ?_ rfl
          have hcn := BigFrame.eval_const a'; have hfn := BigFrame.eval_func a'; clear hs hdep; generalize a'.eval = ev at *; go_simp
        · go_light; intro listed a' w' hs hS hun hdep
          have eg : a'.eval (.tmp 70) = .bool true := hs.eval 9 _ 70 rfl (hdep ⟨9, .guard⟩ (by simp) rfl) rfl
          have r73 : (.ints (([] : List Int)) : GV).ok w2.heap.size (a'.eval (.tmp 73)) w' := hs.eval 12 _ 73 rfl (hdep ⟨12, .data⟩ (by simp) rfl) rfl
          obtain ⟨ao73, cp73, e73, k73⟩ := r73
          have e74 : a'.eval (.tmp 74) = .slice none 0 0 := hs.eval 13 _ 74 rfl (hdep ⟨13, .data⟩ (by simp) rfl) rfl
          refine g_call 28 #[.slice ao73 (([] : List Int)).length cp73, .slice none 0 0] hS (wanted_yes rfl rfl rfl eg) ?_ ?_
          · have hcn := BigFrame.eval_const a'; have hfn := BigFrame.eval_func a'; clear hs hdep; generalize a'.eval = ev at *; go_simp
          · exact c_val (HI2.out ao73 none cp73 0 w' k73 (HBl.out.below hS)) rfl
        · go_light; intro listed a' w' hs hS hun hdep
          have e70 : a'.eval (.tmp 70) = .bool true := hs.eval 9 _ 70 rfl (hdep ⟨9, .data⟩ (by simp) rfl) rfl
          have e75 : a'.eval (.tmp 75) = .bool true := hs.eval 14 _ 75 rfl (hdep ⟨14, .data⟩ (by simp) rfl) rfl
          refine g_val (.bool true) hS rfl ?_ rfl
          have hcn := BigFrame.eval_const a'; have hfn := BigFrame.eval_func a'; clear hs hdep; generalize a'.eval = ev at *; go_simp
        · go_light; intro listed a' w' hs hS hun hdep
          have e76 : a'.eval (.tmp 76) = .bool true := hs.eval 15 _ 76 rfl (hdep ⟨15, .data⟩ (by simp) rfl) rfl
          refine g_val (.bool true) hS rfl ?_ rfl
          have hcn := BigFrame.eval_const a'; have hfn := BigFrame.eval_func a'; clear hs hdep; generalize a'.eval = ev at *; go_simp
        · intro vs wz hlen hV listed hall hS
          obtain ⟨v0, v1, v2, v3, v4, v5, v6, v7, v8, v9, v10, v11, v12, v13, v14, v15, v16, rfl⟩ := vs17 vs (hlen.trans rfl)
          have q0 : v0 = .pointer (some ⟨g, 0, none⟩) := hV 0 _ rfl
          have q1 : v1 = .agg (L.lv lo.1 lo.2) := hV 1 _ rfl
          have q2 : v2 = .agg (L.lv hi.1 hi.2) := hV 2 _ rfl
          obtain ⟨aq3, cq3, q3, _⟩ : (.ints (r1) : GV).ok w2.heap.size v3 wz := hV 3 _ rfl
          have q4 : v4 = .slice a l.length cap := hV 4 _ rfl
          have q5 : v5 = .agg (L.lv lo.1 lo.2) := hV 5 _ rfl
          have q6 : v6 = .agg (L.lv hi.1 hi.2) := hV 6 _ rfl
          obtain ⟨aq7, cq7, q7, _⟩ : (.ints (r1) : GV).ok w2.heap.size v7 wz := hV 7 _ rfl
          have q8 : v8 = .bool true := hV 8 _ rfl
          have q9 : v9 = .bool true := hV 9 _ rfl
          have q10 : v10 = .pointer (some ⟨g, 0, none⟩) := hV 10 _ rfl
          have q11 : v11 = .int .i64 n := hV 11 _ rfl
          obtain ⟨aq12, cq12, q12, _⟩ : (.ints (([] : List Int)) : GV).ok w2.heap.size v12 wz := hV 12 _ rfl
          have q13 : v13 = .slice none 0 0 := hV 13 _ rfl
          have q14 : v14 = .bool true := hV 14 _ rfl
          have q15 : v15 = .bool true := hV 15 _ rfl
          have q16 : v16 = .bool true := hV 16 _ rfl
          have hbel : Below w2.heap.size w2 wz := hS
          subst q0 q1 q2 q3 q4 q5 q6 q7 q8 q9 q10 q11 q12 q13 q14 q15 q16
          clear hV hS hall
          simp only [lays, Act.put, List.setIfInBounds_toArray, List.set_cons_zero, List.set_cons_succ]
          have hbz := hb.trans (hbel.mono hb.size)
          go_wp2
          go_ret
          exact ⟨rfl, hbz⟩
#print axioms ranges_all
end Go.Proofs.Ytdipoaekdafbeaa
