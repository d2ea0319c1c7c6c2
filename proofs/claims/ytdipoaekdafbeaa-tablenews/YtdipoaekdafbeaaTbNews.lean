/- TableNews, walked whole. -/
import Derived.Test.YtdipoaekdafbeaaTbCheck
namespace Go.Proofs.Ytdipoaekdafbeaa
open Go.RowKit Go.Maps Go.ChangeMaps
set_option maxRecDepth 100000
set_option linter.unusedVariables false
open T

theorem vs47 (vs : List Value) (h : vs.length = 47) : ∃ v0 v1 v2 v3 v4 v5 v6 v7 v8 v9 v10 v11 v12 v13 v14 v15 v16 v17 v18 v19 v20 v21 v22 v23 v24 v25 v26 v27 v28 v29 v30 v31 v32 v33 v34 v35 v36 v37 v38 v39 v40 v41 v42 v43 v44 v45 v46, vs = [v0, v1, v2, v3, v4, v5, v6, v7, v8, v9, v10, v11, v12, v13, v14, v15, v16, v17, v18, v19, v20, v21, v22, v23, v24, v25, v26, v27, v28, v29, v30, v31, v32, v33, v34, v35, v36, v37, v38, v39, v40, v41, v42, v43, v44, v45, v46] := by
  obtain ⟨v0, r0, rfl, h0⟩ := LbLow.vs_cons vs h
  obtain ⟨v1, r1, rfl, h1⟩ := LbLow.vs_cons r0 h0
  obtain ⟨v2, r2, rfl, h2⟩ := LbLow.vs_cons r1 h1
  obtain ⟨v3, r3, rfl, h3⟩ := LbLow.vs_cons r2 h2
  obtain ⟨v4, r4, rfl, h4⟩ := LbLow.vs_cons r3 h3
  obtain ⟨v5, r5, rfl, h5⟩ := LbLow.vs_cons r4 h4
  obtain ⟨v6, r6, rfl, h6⟩ := LbLow.vs_cons r5 h5
  obtain ⟨v7, r7, rfl, h7⟩ := LbLow.vs_cons r6 h6
  obtain ⟨v8, r8, rfl, h8⟩ := LbLow.vs_cons r7 h7
  obtain ⟨v9, r9, rfl, h9⟩ := LbLow.vs_cons r8 h8
  obtain ⟨v10, r10, rfl, h10⟩ := LbLow.vs_cons r9 h9
  obtain ⟨v11, r11, rfl, h11⟩ := LbLow.vs_cons r10 h10
  obtain ⟨v12, r12, rfl, h12⟩ := LbLow.vs_cons r11 h11
  obtain ⟨v13, r13, rfl, h13⟩ := LbLow.vs_cons r12 h12
  obtain ⟨v14, r14, rfl, h14⟩ := LbLow.vs_cons r13 h13
  obtain ⟨v15, r15, rfl, h15⟩ := LbLow.vs_cons r14 h14
  obtain ⟨v16, r16, rfl, h16⟩ := LbLow.vs_cons r15 h15
  obtain ⟨v17, r17, rfl, h17⟩ := LbLow.vs_cons r16 h16
  obtain ⟨v18, r18, rfl, h18⟩ := LbLow.vs_cons r17 h17
  obtain ⟨v19, r19, rfl, h19⟩ := LbLow.vs_cons r18 h18
  obtain ⟨v20, r20, rfl, h20⟩ := LbLow.vs_cons r19 h19
  obtain ⟨v21, r21, rfl, h21⟩ := LbLow.vs_cons r20 h20
  obtain ⟨v22, r22, rfl, h22⟩ := LbLow.vs_cons r21 h21
  obtain ⟨v23, r23, rfl, h23⟩ := LbLow.vs_cons r22 h22
  obtain ⟨v24, r24, rfl, h24⟩ := LbLow.vs_cons r23 h23
  obtain ⟨v25, r25, rfl, h25⟩ := LbLow.vs_cons r24 h24
  obtain ⟨v26, r26, rfl, h26⟩ := LbLow.vs_cons r25 h25
  obtain ⟨v27, r27, rfl, h27⟩ := LbLow.vs_cons r26 h26
  obtain ⟨v28, r28, rfl, h28⟩ := LbLow.vs_cons r27 h27
  obtain ⟨v29, r29, rfl, h29⟩ := LbLow.vs_cons r28 h28
  obtain ⟨v30, r30, rfl, h30⟩ := LbLow.vs_cons r29 h29
  obtain ⟨v31, r31, rfl, h31⟩ := LbLow.vs_cons r30 h30
  obtain ⟨v32, r32, rfl, h32⟩ := LbLow.vs_cons r31 h31
  obtain ⟨v33, r33, rfl, h33⟩ := LbLow.vs_cons r32 h32
  obtain ⟨v34, r34, rfl, h34⟩ := LbLow.vs_cons r33 h33
  obtain ⟨v35, r35, rfl, h35⟩ := LbLow.vs_cons r34 h34
  obtain ⟨v36, r36, rfl, h36⟩ := LbLow.vs_cons r35 h35
  obtain ⟨v37, r37, rfl, h37⟩ := LbLow.vs_cons r36 h36
  obtain ⟨v38, r38, rfl, h38⟩ := LbLow.vs_cons r37 h37
  obtain ⟨v39, r39, rfl, h39⟩ := LbLow.vs_cons r38 h38
  obtain ⟨v40, r40, rfl, h40⟩ := LbLow.vs_cons r39 h39
  obtain ⟨v41, r41, rfl, h41⟩ := LbLow.vs_cons r40 h40
  obtain ⟨v42, r42, rfl, h42⟩ := LbLow.vs_cons r41 h41
  obtain ⟨v43, r43, rfl, h43⟩ := LbLow.vs_cons r42 h42
  obtain ⟨v44, r44, rfl, h44⟩ := LbLow.vs_cons r43 h43
  obtain ⟨v45, r45, rfl, h45⟩ := LbLow.vs_cons r44 h44
  obtain ⟨v46, r46, rfl, h46⟩ := LbLow.vs_cons r45 h45
  obtain rfl := List.eq_nil_of_length_eq_zero h46
  exact ⟨v0, v1, v2, v3, v4, v5, v6, v7, v8, v9, v10, v11, v12, v13, v14, v15, v16, v17, v18, v19, v20, v21, v22, v23, v24, v25, v26, v27, v28, v29, v30, v31, v32, v33, v34, v35, v36, v37, v38, v39, v40, v41, v42, v43, v44, v45, v46, rfl⟩

set_option maxHeartbeats 32000000 in
theorem news_all (a : Option Addr) (cap : Nat) (l : Labs) (n : Int) (x : Int × Nat) (w : World) (h : LRow w a l) (hok : ∀ p ∈ l, ok p) (hx : ok x) :
    Calls Try.prog 6 #[.slice a l.length cap, .int .i64 n, .agg (L.lv x.1 x.2)] w fun e w' => e = .returned (.bool true) ∧ Below w.heap.size w w' := by
  have hb0 : Below w.heap.size w (w.alloc (.cells (L.lv x.1 x.2) 29)) := (Below.refl _ w).alloc (Nat.le_refl _) _
  have HX := Lib.hid (LabAt.new w x.1 x.2)
  have HR0 := Lib.hid (h.below hb0)
  have Hok := Lib.hid hok
  have Hx := Lib.hid hx
  clear h hok hx
  by_cases h40 : 40 < l.length
  · have h40' : (40 : Int) < (l.length : Int) := by omega
    go_enter Try.func6, Try.ntmps6
    go_wp2_with fail
    refine (tab_awake _).mono ?_
    rintro e w1 ⟨rfl, hb1⟩
    have hbw1 := hb0.trans (hb1.mono hb0.size)
    go_wp2
    go_ret
    exact ⟨rfl, hbw1⟩
  have h40' : ¬ (40 : Int) < (l.length : Int) := by omega
  go_enter Try.func6, Try.ntmps6
  go_wp2_with fail
  generalize w.alloc (.cells (L.lv x.1 x.2) 29) = w1 at *
  rcases chk_cases l with ⟨hup, hck⟩ | ⟨k, hk, hup, he, hck⟩
  rotate_left
  · refine (New_bad a cap l w1 HR0.out (by omega) Hok.out k hk hup he).mono ?_
    rintro e w2 ⟨rfl, hb2⟩
    have hbw2 := hb0.trans (hb2.mono hb0.size)
    have HCk := Lib.hid (Check_any a cap l w2 (HR0.out.below hb2) (by omega) Hok.out)
    rw [hck] at HCk
    have hne : (addE (l.take k) (lab l k) == 0) = false := by simpa using he
    generalize addE (l.take k) (lab l k) = E at *
    clear he hup hck hb2
    go_wp2_with fail
    refine HCk.out.mono ?_
    rintro e w3 ⟨rfl, hb3⟩
    have hbw3 := hbw2.trans (hb3.mono hbw2.size)
    clear hb3 HCk
    go_wp2_with fail
    refine (tab_awake _).mono ?_
    rintro e w4 ⟨rfl, hb4⟩
    have hbw4 := hbw3.trans (hb4.mono hbw3.size)
    go_wp2
    go_ret
    exact ⟨rfl, hbw4⟩
  have hnd : l.Nodup := by
    have := upTo_nodup l.length hup (Nat.le_refl _)
    rwa [List.take_length] at this
  refine (New_good a cap l w1 HR0.out (by omega) Hok.out hup).mono ?_
  rintro e w2 ⟨g, rfl, htab, hb2⟩
  obtain ⟨ao, ct, mm, hT⟩ := htab.read
  have HT2 := Lib.hid hT
  have HX2 := Lib.hid (HX.out.below hb2 HX.out.lt)
  have HR2 := Lib.hid (HR0.out.below hb2)
  have hbw2 := hb0.trans (hb2.mono hb0.size)
  have HCk := Lib.hid (Check_any a cap l w2 HR2.out (by omega) Hok.out)
  rw [hck] at HCk
  have Hnd := Lib.hid hnd
  clear hT htab hb2 HX HR0 hb0 hup hck hnd
  go_wp2_with fail
  refine HCk.out.mono ?_
  rintro e w3 ⟨rfl, hb3⟩
  have HT3 := Lib.hid (HT2.out.below hb3)
  have HX3 := Lib.hid (HX2.out.below hb3 HX2.out.lt)
  have HR3 := Lib.hid (HR2.out.below hb3)
  have hbw3 := hbw2.trans (hb3.mono hbw2.size)
  clear hb3 HCk HT2 HX2 HR2 hbw2
  go_wp2_with fail
  refine (At_any g mm ct l ao n w3 HT3.out).mono ?_
  rintro e w5 ⟨rfl, hb5⟩
  have HN5 := Lib.hid (LabAt.new w5 0 0)
  have hbn5 : Below w5.heap.size w5 (w5.alloc (.cells (L.lv 0 0) 29)) := (Below.refl _ _).alloc (Nat.le_refl _) _
  have Hat := Lib.hid (show atL l n = atL l n from rfl)
  obtain ⟨y, hy⟩ : ∃ y, atL l n = y := ⟨_, rfl⟩
  obtain ⟨qi, hqi⟩ : ∃ q, isAt l n = q := ⟨_, rfl⟩
  rw [hy, hqi]
  have HY := Lib.hid hy
  have HQi := Lib.hid hqi
  have Hb5 := Lib.hid hb5
  clear hy hqi Hat hb5
  go_wp2_with (first | (rw [L.zero31]; refine store_lab rfl rfl rfl rfl HN5.out ?_; intro w4 hs ho; have HA4 := Lib.hid hs; have hb54 := hbn5.trans (ho.below (Nat.le_refl _)); have hb34 := Lib.hid (Hb5.out.trans (hb54.mono Hb5.out.size)); have HT4 := Lib.hid (HT3.out.below hb34.out); have HX4 := Lib.hid (HX3.out.below hb34.out HX3.out.lt); have HR4 := Lib.hid (HR3.out.below hb34.out); clear hs ho) | (refine load_lab rfl rfl rfl HX4.out ?_))
  have hbw4 := hbw3.trans (hb34.out.mono hbw3.size)
  clear HT3 HX3 HR3 hbw3 HN5 hbn5 hb54 hb34 Hb5
  refine (Find_any g mm ct l ao x.1 x.2 w4 HT4.out Hok.out Hnd.out Hx.out).mono ?_
  rintro e w6 ⟨rfl, hb6⟩
  have HT6 := Lib.hid (HT4.out.below hb6)
  have HX6 := Lib.hid (HX4.out.below hb6 HX4.out.lt)
  have HR6 := Lib.hid (HR4.out.below hb6)
  have HA6 := Lib.hid (HA4.out.below hb6 HA4.out.lt)
  have hbw6 := hbw4.trans (hb6.mono hbw4.size)
  have HFd := Lib.hid (RFind_any a cap l x w6 HR6.out (by omega) Hok.out Hx.out.2)
  rw [show ((x.1, x.2) : Int × Nat) = x from rfl]
  generalize findI l x = f at *
  clear hb6 HT4 HX4 HR4 HA4 hbw4
  go_wp2_with (refine load_lab rfl rfl rfl HX6.out ?_)
  refine HFd.out.mono ?_
  rintro e w7 ⟨rfl, hb7⟩
  have HT7 := Lib.hid (HT6.out.below hb7)
  have HR7 := Lib.hid (HR6.out.below hb7)
  have HA7 := Lib.hid (HA6.out.below hb7 HA6.out.lt)
  have hbw7 := hbw6.trans (hb7.mono hbw6.size)
  clear hb7 HT6 HX6 HR6 HA6 hbw6 HFd
  go_wp2_with fail
  refine (All_any g mm ct l ao w7 HT7.out (by omega)).mono ?_
  rintro e wq ⟨a2, c2, rfl, hal, hbq⟩
  have HT := Lib.hid (HT7.out.below hbq)
  have HR5 := Lib.hid (HR7.out.below hbq)
  have HA := Lib.hid (HA7.out.below hbq HA7.out.lt)
  have HAl := Lib.hid hal
  have hbw5 := hbw7.trans (hbq.mono hbw7.size)
  have HLen := Lib.hid (fun w' (h : TabR w' g l ao ct mm) => Len_any g l.length ct ao w' h.c0)
  have HMx : Hid (f < 0 → max f 0 = 0) := Lib.hid (fun h => by omega)
  clear hal hbq HT7 HR7 HA7 hbw7
  by_cases hn : 0 ≤ n ∧ n < l.length
  · have GQ : Hid (qi = true) := Lib.hid (by rw [← HQi.out]; exact decide_eq_true hn)
    obtain ⟨k, rfl⟩ : ∃ k : Nat, n = k := ⟨n.toNat, by omega⟩
    have hk : k < l.length := by omega
    have GY : Hid (y = lab l k) := Lib.hid (by rw [← HY.out]; unfold atL; rw [if_pos hn]; rfl)
    have hny : y.2 < 2 ^ 240 := by rw [GY.out]; exact (Hok.out _ (lab_mem l k hk)).2
    obtain ⟨b, off, rfl, _, hr⟩ := labs_row HR5.out k hk
    have HRk : Hid (∀ w', Below wq.heap.size wq w' → w'.rangeAt b (off + k * 31) (L.lv y.1 y.2).toList) := Lib.hid (fun w' hS => by rw [GY.out]; exact hr k hk w' hS)
    have h1' : (0 : Int) ≤ (k : Int) := hn.1
    have h2' : (k : Int) < (l.length : Int) := hn.2
    rw [GQ.out]
    clear GQ HQi HY GY hn hr
    go_wp2
    refine region_gen (VG wq.heap.size [.val (.pointer (some ⟨g, 0, none⟩)), .val (.int .i64 (l.length : Nat)), .val (.slice (some ⟨b, off, none⟩) l.length cap), .val (.int .i64 (l.length : Nat)), .val (.bool false), .val (.bool false), .val (.slice a2 l.length c2), .val (.int .i64 (l.length : Nat)), .val (.slice (some ⟨b, off, none⟩) l.length cap), .val (.int .i64 (l.length : Nat)), .val (.bool false), .val (.bool false), .val (.bool false), .val (.bool true), .val (.int .i64 k), .val (.bool true), .val (.bool true), .val (.int .i64 k), .val (.slice (some ⟨b, off, none⟩) l.length cap), .val (.int .i64 (l.length : Nat)), .val (.bool true), .val (.bool true), .val (.bool false), .val (.bool false), .val (.bool false), .val (.bool true), .val (.bool true), .val (.agg (L.lv y.1 y.2)), .val (.slice (some ⟨b, off, none⟩) l.length cap), .val (.int .i64 k), .val (.pointer (some ⟨b, off + k * 31, none⟩)), .val (.agg (L.lv y.1 y.2)), .val (.bool false), .val (.bool false), .val (.bool false), .val (.bool false), .val (.bool (decide (0 ≤ f))), .val (.int .i64 f), .val (.bool (decide (0 ≤ f))), .val (.bool false), .val (.bool false), .val (.bool false), .val (.int .i64 (max f 0)), .val (.int .i64 f), .val (.int .i64 (max f 0)), .val (.bool false), .val (.bool false)]) (BS wq) (by kernel_rfl) (by kernel_rfl) (Below.refl _ _).drew ⟨?_, ?_, ?_, ?_, ?_, ?_, ?_, ?_, ?_, ?_, ?_, ?_, ?_, ?_, ?_, ?_, ?_, ?_, ?_, ?_, ?_, ?_, ?_, ?_, ?_, ?_, ?_, ?_, ?_, ?_, ?_, ?_, ?_, ?_, ?_, ?_, ?_, ?_, ?_, ?_, ?_, ?_, ?_, ?_, ?_, ?_, ?_, trivial⟩ ?_
    · go_light; intro listed a' w' hs hS hun hdep
      have e7 : a'.eval (.tmp 7) = .pointer (some ⟨g, 0, none⟩) := (hs.out 7 (by kernel_rfl)).trans (rfl)
      refine g_val (.pointer (some ⟨g, 0, none⟩)) hS rfl ?_ rfl
      have hcn := BigFrame.eval_const a'; have hfn := BigFrame.eval_func a'; clear hs hdep; generalize a'.eval = ev at *; go_simp
    · go_light; intro listed a' w' hs hS hun hdep
      have e69 : a'.eval (.tmp 69) = .pointer (some ⟨g, 0, none⟩) := hs.eval 0 _ 69 rfl (hdep ⟨0, .data⟩ (by simp) rfl) rfl
      refine g_call 26 #[.pointer (some ⟨g, 0, none⟩)] hS rfl ?_ ?_
      · have hcn := BigFrame.eval_const a'; have hfn := BigFrame.eval_func a'; clear hs hdep; generalize a'.eval = ev at *; go_simp
      · exact c_val ((HLen.out w' (HT.out.below hS)).mono fun e w'' ⟨he, hw⟩ => ⟨he, by rw [hw]; exact Below.refl _ _⟩) rfl
    · go_light; intro listed a' w' hs hS hun hdep
      have e0 : a'.eval (.tmp 0) = .slice (some ⟨b, off, none⟩) l.length cap := (hs.out 0 (by kernel_rfl)).trans (rfl)
      refine g_val (.slice (some ⟨b, off, none⟩) l.length cap) hS rfl ?_ rfl
      have hcn := BigFrame.eval_const a'; have hfn := BigFrame.eval_func a'; clear hs hdep; generalize a'.eval = ev at *; go_simp
    · go_light; intro listed a' w' hs hS hun hdep
      have e71 : a'.eval (.tmp 71) = .slice (some ⟨b, off, none⟩) l.length cap := hs.eval 2 _ 71 rfl (hdep ⟨2, .data⟩ (by simp) rfl) rfl
      refine g_val (.int .i64 (l.length : Nat)) hS rfl ?_ rfl
      have hcn := BigFrame.eval_const a'; have hfn := BigFrame.eval_func a'; clear hs hdep; generalize a'.eval = ev at *; go_simp
    · go_light; intro listed a' w' hs hS hun hdep
      have e70 : a'.eval (.tmp 70) = .int .i64 (l.length : Nat) := hs.eval 1 _ 70 rfl (hdep ⟨1, .data⟩ (by simp) rfl) rfl
      have e72 : a'.eval (.tmp 72) = .int .i64 (l.length : Nat) := hs.eval 3 _ 72 rfl (hdep ⟨3, .data⟩ (by simp) rfl) rfl
      refine g_val (.bool false) hS rfl ?_ rfl
      have hcn := BigFrame.eval_const a'; have hfn := BigFrame.eval_func a'; clear hs hdep; generalize a'.eval = ev at *; go_simp
    · go_light; intro listed a' w' hs hS hun hdep
      have e73 : a'.eval (.tmp 73) = .bool false := hs.eval 4 _ 73 rfl (hdep ⟨4, .data⟩ (by simp) rfl) rfl
      refine g_val (.bool false) hS rfl ?_ rfl
      have hcn := BigFrame.eval_const a'; have hfn := BigFrame.eval_func a'; clear hs hdep; generalize a'.eval = ev at *; go_simp
    · go_light; intro listed a' w' hs hS hun hdep
      have eg : a'.eval (.tmp 74) = .bool false := hs.eval 5 _ 74 rfl (hdep ⟨5, .guard⟩ (by simp) rfl) rfl
      have e17 : a'.eval (.tmp 17) = .slice a2 l.length c2 := (hs.out 17 (by kernel_rfl)).trans (rfl)
      refine g_val (.slice a2 l.length c2) hS (wanted_yes rfl rfl rfl eg) ?_ rfl
      have hcn := BigFrame.eval_const a'; have hfn := BigFrame.eval_func a'; clear hs hdep; generalize a'.eval = ev at *; go_simp
    · go_light; intro listed a' w' hs hS hun hdep
      have eg : a'.eval (.tmp 74) = .bool false := hs.eval 5 _ 74 rfl (hdep ⟨5, .guard⟩ (by simp) rfl) rfl
      have e75 : a'.eval (.tmp 75) = .slice a2 l.length c2 := hs.eval 6 _ 75 rfl (hdep ⟨6, .data⟩ (by simp) rfl) rfl
      refine g_val (.int .i64 (l.length : Nat)) hS (wanted_yes rfl rfl rfl eg) ?_ rfl
      have hcn := BigFrame.eval_const a'; have hfn := BigFrame.eval_func a'; clear hs hdep; generalize a'.eval = ev at *; go_simp
    · go_light; intro listed a' w' hs hS hun hdep
      have eg : a'.eval (.tmp 74) = .bool false := hs.eval 5 _ 74 rfl (hdep ⟨5, .guard⟩ (by simp) rfl) rfl
      have e0 : a'.eval (.tmp 0) = .slice (some ⟨b, off, none⟩) l.length cap := (hs.out 0 (by kernel_rfl)).trans (rfl)
      refine g_val (.slice (some ⟨b, off, none⟩) l.length cap) hS (wanted_yes rfl rfl rfl eg) ?_ rfl
      have hcn := BigFrame.eval_const a'; have hfn := BigFrame.eval_func a'; clear hs hdep; generalize a'.eval = ev at *; go_simp
    · go_light; intro listed a' w' hs hS hun hdep
      have eg : a'.eval (.tmp 74) = .bool false := hs.eval 5 _ 74 rfl (hdep ⟨5, .guard⟩ (by simp) rfl) rfl
      have e77 : a'.eval (.tmp 77) = .slice (some ⟨b, off, none⟩) l.length cap := hs.eval 8 _ 77 rfl (hdep ⟨8, .data⟩ (by simp) rfl) rfl
      refine g_val (.int .i64 (l.length : Nat)) hS (wanted_yes rfl rfl rfl eg) ?_ rfl
      have hcn := BigFrame.eval_const a'; have hfn := BigFrame.eval_func a'; clear hs hdep; generalize a'.eval = ev at *; go_simp
    · go_light; intro listed a' w' hs hS hun hdep
      have eg : a'.eval (.tmp 74) = .bool false := hs.eval 5 _ 74 rfl (hdep ⟨5, .guard⟩ (by simp) rfl) rfl
      have e76 : a'.eval (.tmp 76) = .int .i64 (l.length : Nat) := hs.eval 7 _ 76 rfl (hdep ⟨7, .data⟩ (by simp) rfl) rfl
      have e78 : a'.eval (.tmp 78) = .int .i64 (l.length : Nat) := hs.eval 9 _ 78 rfl (hdep ⟨9, .data⟩ (by simp) rfl) rfl
      refine g_val (.bool false) hS (wanted_yes rfl rfl rfl eg) ?_ rfl
      have hcn := BigFrame.eval_const a'; have hfn := BigFrame.eval_func a'; clear hs hdep; generalize a'.eval = ev at *; go_simp
    · go_light; intro listed a' w' hs hS hun hdep
      have e74 : a'.eval (.tmp 74) = .bool false := hs.eval 5 _ 74 rfl (hdep ⟨5, .data⟩ (by simp) rfl) rfl
      have e79 : a'.eval (.tmp 79) = .bool false := hs.eval 10 _ 79 rfl (hdep ⟨10, .data⟩ (by simp) rfl) rfl
      refine g_val (.bool false) hS rfl ?_ rfl
      have hcn := BigFrame.eval_const a'; have hfn := BigFrame.eval_func a'; clear hs hdep; generalize a'.eval = ev at *; go_simp
    · go_light; intro listed a' w' hs hS hun hdep
      have e80 : a'.eval (.tmp 80) = .bool false := hs.eval 11 _ 80 rfl (hdep ⟨11, .data⟩ (by simp) rfl) rfl
      refine g_val (.bool false) hS rfl ?_ rfl
      have hcn := BigFrame.eval_const a'; have hfn := BigFrame.eval_func a'; clear hs hdep; generalize a'.eval = ev at *; go_simp
    · go_light; intro listed a' w' hs hS hun hdep
      have eg : a'.eval (.tmp 81) = .bool false := hs.eval 12 _ 81 rfl (hdep ⟨12, .guard⟩ (by simp) rfl) rfl
      have e13 : a'.eval (.tmp 13) = .bool true := (hs.out 13 (by kernel_rfl)).trans (rfl)
      refine g_val (.bool true) hS (wanted_yes rfl rfl rfl eg) ?_ rfl
      have hcn := BigFrame.eval_const a'; have hfn := BigFrame.eval_func a'; clear hs hdep; generalize a'.eval = ev at *; go_simp
    · go_light; intro listed a' w' hs hS hun hdep
      have eg : a'.eval (.tmp 81) = .bool false := hs.eval 12 _ 81 rfl (hdep ⟨12, .guard⟩ (by simp) rfl) rfl
      have e1 : a'.eval (.tmp 1) = .int .i64 k := (hs.out 1 (by kernel_rfl)).trans (rfl)
      refine g_val (.int .i64 k) hS (wanted_yes rfl rfl rfl eg) ?_ rfl
      have hcn := BigFrame.eval_const a'; have hfn := BigFrame.eval_func a'; clear hs hdep; generalize a'.eval = ev at *; go_simp
    · go_light; intro listed a' w' hs hS hun hdep
      have eg : a'.eval (.tmp 81) = .bool false := hs.eval 12 _ 81 rfl (hdep ⟨12, .guard⟩ (by simp) rfl) rfl
      have e83 : a'.eval (.tmp 83) = .int .i64 k := hs.eval 14 _ 83 rfl (hdep ⟨14, .data⟩ (by simp) rfl) rfl
      refine g_val (.bool true) hS (wanted_yes rfl rfl rfl eg) ?_ rfl
      have hcn := BigFrame.eval_const a'; have hfn := BigFrame.eval_func a'; clear hs hdep; generalize a'.eval = ev at *; go_simp
    · go_light; intro listed a' w' hs hS hun hdep
      have eg : a'.eval (.tmp 81) = .bool false := hs.eval 12 _ 81 rfl (hdep ⟨12, .guard⟩ (by simp) rfl) rfl
      have e84 : a'.eval (.tmp 84) = .bool true := hs.eval 15 _ 84 rfl (hdep ⟨15, .data⟩ (by simp) rfl) rfl
      refine g_val (.bool true) hS (wanted_yes rfl rfl rfl eg) ?_ rfl
      have hcn := BigFrame.eval_const a'; have hfn := BigFrame.eval_func a'; clear hs hdep; generalize a'.eval = ev at *; go_simp
    · go_light; intro listed a' w' hs hS hun hdep
      have eg : a'.eval (.tmp 85) = .bool true := hs.eval 16 _ 85 rfl (hdep ⟨16, .guard⟩ (by simp) rfl) rfl
      have e1 : a'.eval (.tmp 1) = .int .i64 k := (hs.out 1 (by kernel_rfl)).trans (rfl)
      refine g_val (.int .i64 k) hS (wanted_yes rfl rfl rfl eg) ?_ rfl
      have hcn := BigFrame.eval_const a'; have hfn := BigFrame.eval_func a'; clear hs hdep; generalize a'.eval = ev at *; go_simp
    · go_light; intro listed a' w' hs hS hun hdep
      have eg : a'.eval (.tmp 85) = .bool true := hs.eval 16 _ 85 rfl (hdep ⟨16, .guard⟩ (by simp) rfl) rfl
      have e0 : a'.eval (.tmp 0) = .slice (some ⟨b, off, none⟩) l.length cap := (hs.out 0 (by kernel_rfl)).trans (rfl)
      refine g_val (.slice (some ⟨b, off, none⟩) l.length cap) hS (wanted_yes rfl rfl rfl eg) ?_ rfl
      have hcn := BigFrame.eval_const a'; have hfn := BigFrame.eval_func a'; clear hs hdep; generalize a'.eval = ev at *; go_simp
    · go_light; intro listed a' w' hs hS hun hdep
      have eg : a'.eval (.tmp 85) = .bool true := hs.eval 16 _ 85 rfl (hdep ⟨16, .guard⟩ (by simp) rfl) rfl
      have e87 : a'.eval (.tmp 87) = .slice (some ⟨b, off, none⟩) l.length cap := hs.eval 18 _ 87 rfl (hdep ⟨18, .data⟩ (by simp) rfl) rfl
      refine g_val (.int .i64 (l.length : Nat)) hS (wanted_yes rfl rfl rfl eg) ?_ rfl
      have hcn := BigFrame.eval_const a'; have hfn := BigFrame.eval_func a'; clear hs hdep; generalize a'.eval = ev at *; go_simp
    · go_light; intro listed a' w' hs hS hun hdep
      have eg : a'.eval (.tmp 85) = .bool true := hs.eval 16 _ 85 rfl (hdep ⟨16, .guard⟩ (by simp) rfl) rfl
      have e86 : a'.eval (.tmp 86) = .int .i64 k := hs.eval 17 _ 86 rfl (hdep ⟨17, .data⟩ (by simp) rfl) rfl
      have e88 : a'.eval (.tmp 88) = .int .i64 (l.length : Nat) := hs.eval 19 _ 88 rfl (hdep ⟨19, .data⟩ (by simp) rfl) rfl
      refine g_val (.bool true) hS (wanted_yes rfl rfl rfl eg) ?_ rfl
      have hcn := BigFrame.eval_const a'; have hfn := BigFrame.eval_func a'; clear hs hdep; generalize a'.eval = ev at *; go_simp
    · go_light; intro listed a' w' hs hS hun hdep
      have eg : a'.eval (.tmp 81) = .bool false := hs.eval 12 _ 81 rfl (hdep ⟨12, .guard⟩ (by simp) rfl) rfl
      have e85 : a'.eval (.tmp 85) = .bool true := hs.eval 16 _ 85 rfl (hdep ⟨16, .data⟩ (by simp) rfl) rfl
      have e89 : a'.eval (.tmp 89) = .bool true := hs.eval 20 _ 89 rfl (hdep ⟨20, .data⟩ (by simp) rfl) rfl
      refine g_val (.bool true) hS (wanted_yes rfl rfl rfl eg) ?_ rfl
      have hcn := BigFrame.eval_const a'; have hfn := BigFrame.eval_func a'; clear hs hdep; generalize a'.eval = ev at *; go_simp
    · go_light; intro listed a' w' hs hS hun hdep
      have eg : a'.eval (.tmp 81) = .bool false := hs.eval 12 _ 81 rfl (hdep ⟨12, .guard⟩ (by simp) rfl) rfl
      have e82 : a'.eval (.tmp 82) = .bool true := hs.eval 13 _ 82 rfl (hdep ⟨13, .data⟩ (by simp) rfl) rfl
      have e90 : a'.eval (.tmp 90) = .bool true := hs.eval 21 _ 90 rfl (hdep ⟨21, .data⟩ (by simp) rfl) rfl
      refine g_val (.bool false) hS (wanted_yes rfl rfl rfl eg) ?_ rfl
      have hcn := BigFrame.eval_const a'; have hfn := BigFrame.eval_func a'; clear hs hdep; generalize a'.eval = ev at *; go_simp
    · go_light; intro listed a' w' hs hS hun hdep
      have e81 : a'.eval (.tmp 81) = .bool false := hs.eval 12 _ 81 rfl (hdep ⟨12, .data⟩ (by simp) rfl) rfl
      have e91 : a'.eval (.tmp 91) = .bool false := hs.eval 22 _ 91 rfl (hdep ⟨22, .data⟩ (by simp) rfl) rfl
      refine g_val (.bool false) hS rfl ?_ rfl
      have hcn := BigFrame.eval_const a'; have hfn := BigFrame.eval_func a'; clear hs hdep; generalize a'.eval = ev at *; go_simp
    · go_light; intro listed a' w' hs hS hun hdep
      have e92 : a'.eval (.tmp 92) = .bool false := hs.eval 23 _ 92 rfl (hdep ⟨23, .data⟩ (by simp) rfl) rfl
      refine g_val (.bool false) hS rfl ?_ rfl
      have hcn := BigFrame.eval_const a'; have hfn := BigFrame.eval_func a'; clear hs hdep; generalize a'.eval = ev at *; go_simp
    · go_light; intro listed a' w' hs hS hun hdep
      have eg : a'.eval (.tmp 93) = .bool false := hs.eval 24 _ 93 rfl (hdep ⟨24, .guard⟩ (by simp) rfl) rfl
      have e13 : a'.eval (.tmp 13) = .bool true := (hs.out 13 (by kernel_rfl)).trans (rfl)
      refine g_val (.bool true) hS (wanted_yes rfl rfl rfl eg) ?_ rfl
      have hcn := BigFrame.eval_const a'; have hfn := BigFrame.eval_func a'; clear hs hdep; generalize a'.eval = ev at *; go_simp
    · go_light; intro listed a' w' hs hS hun hdep
      have eg : a'.eval (.tmp 93) = .bool false := hs.eval 24 _ 93 rfl (hdep ⟨24, .guard⟩ (by simp) rfl) rfl
      have e94 : a'.eval (.tmp 94) = .bool true := hs.eval 25 _ 94 rfl (hdep ⟨25, .data⟩ (by simp) rfl) rfl
      refine g_val (.bool true) hS (wanted_yes rfl rfl rfl eg) ?_ rfl
      have hcn := BigFrame.eval_const a'; have hfn := BigFrame.eval_func a'; clear hs hdep; generalize a'.eval = ev at *; go_simp
    · go_light; intro listed a' w' hs hS hun hdep
      have eg : a'.eval (.tmp 95) = .bool true := hs.eval 26 _ 95 rfl (hdep ⟨26, .guard⟩ (by simp) rfl) rfl
      have e12 : a'.eval (.tmp 12) = .pointer (some ⟨w5.heap.size, 0, none⟩) := (hs.out 12 (by kernel_rfl)).trans (rfl)
      exact g_val (.agg (L.lv y.1 y.2)) hS (wanted_yes rfl rfl rfl eg) (run_op_load_lab rfl e12 (HA.out.below hS HA.out.lt)) rfl
    · go_light; intro listed a' w' hs hS hun hdep
      have eg : a'.eval (.tmp 95) = .bool true := hs.eval 26 _ 95 rfl (hdep ⟨26, .guard⟩ (by simp) rfl) rfl
      have e0 : a'.eval (.tmp 0) = .slice (some ⟨b, off, none⟩) l.length cap := (hs.out 0 (by kernel_rfl)).trans (rfl)
      refine g_val (.slice (some ⟨b, off, none⟩) l.length cap) hS (wanted_yes rfl rfl rfl eg) ?_ rfl
      have hcn := BigFrame.eval_const a'; have hfn := BigFrame.eval_func a'; clear hs hdep; generalize a'.eval = ev at *; go_simp
    · go_light; intro listed a' w' hs hS hun hdep
      have eg : a'.eval (.tmp 95) = .bool true := hs.eval 26 _ 95 rfl (hdep ⟨26, .guard⟩ (by simp) rfl) rfl
      have e1 : a'.eval (.tmp 1) = .int .i64 k := (hs.out 1 (by kernel_rfl)).trans (rfl)
      refine g_val (.int .i64 k) hS (wanted_yes rfl rfl rfl eg) ?_ rfl
      have hcn := BigFrame.eval_const a'; have hfn := BigFrame.eval_func a'; clear hs hdep; generalize a'.eval = ev at *; go_simp
    · go_light; intro listed a' w' hs hS hun hdep
      have eg : a'.eval (.tmp 95) = .bool true := hs.eval 26 _ 95 rfl (hdep ⟨26, .guard⟩ (by simp) rfl) rfl
      have e97 : a'.eval (.tmp 97) = .slice (some ⟨b, off, none⟩) l.length cap := hs.eval 28 _ 97 rfl (hdep ⟨28, .data⟩ (by simp) rfl) rfl
      have e98 : a'.eval (.tmp 98) = .int .i64 k := hs.eval 29 _ 98 rfl (hdep ⟨29, .data⟩ (by simp) rfl) rfl
      refine g_val (.pointer (some ⟨b, off + k * 31, none⟩)) hS (wanted_yes rfl rfl rfl eg) ?_ rfl
      have hcn := BigFrame.eval_const a'; have hfn := BigFrame.eval_func a'; clear hs hdep; generalize a'.eval = ev at *; go_simp
    · go_light; intro listed a' w' hs hS hun hdep
      have eg : a'.eval (.tmp 95) = .bool true := hs.eval 26 _ 95 rfl (hdep ⟨26, .guard⟩ (by simp) rfl) rfl
      have e99 : a'.eval (.tmp 99) = .pointer (some ⟨b, off + k * 31, none⟩) := hs.eval 30 _ 99 rfl (hdep ⟨30, .data⟩ (by simp) rfl) rfl
      exact g_val (.agg (L.lv y.1 y.2)) hS (wanted_yes rfl rfl rfl eg) (run_op_load_mid rfl e99 (HRk.out w' hS)) rfl
    · go_light; intro listed a' w' hs hS hun hdep
      have eg : a'.eval (.tmp 95) = .bool true := hs.eval 26 _ 95 rfl (hdep ⟨26, .guard⟩ (by simp) rfl) rfl
      have e96 : a'.eval (.tmp 96) = .agg (L.lv y.1 y.2) := hs.eval 27 _ 96 rfl (hdep ⟨27, .data⟩ (by simp) rfl) rfl
      have e100 : a'.eval (.tmp 100) = .agg (L.lv y.1 y.2) := hs.eval 31 _ 100 rfl (hdep ⟨31, .data⟩ (by simp) rfl) rfl
      exact g_val (.bool false) hS (wanted_yes rfl rfl rfl eg) ((run_op_neq_lab rfl e96 e100 hny hny).trans (by simp)) rfl
    · go_light; intro listed a' w' hs hS hun hdep
      have eg : a'.eval (.tmp 93) = .bool false := hs.eval 24 _ 93 rfl (hdep ⟨24, .guard⟩ (by simp) rfl) rfl
      have e95 : a'.eval (.tmp 95) = .bool true := hs.eval 26 _ 95 rfl (hdep ⟨26, .data⟩ (by simp) rfl) rfl
      have e101 : a'.eval (.tmp 101) = .bool false := hs.eval 32 _ 101 rfl (hdep ⟨32, .data⟩ (by simp) rfl) rfl
      refine g_val (.bool false) hS (wanted_yes rfl rfl rfl eg) ?_ rfl
      have hcn := BigFrame.eval_const a'; have hfn := BigFrame.eval_func a'; clear hs hdep; generalize a'.eval = ev at *; go_simp
    · go_light; intro listed a' w' hs hS hun hdep
      have e93 : a'.eval (.tmp 93) = .bool false := hs.eval 24 _ 93 rfl (hdep ⟨24, .data⟩ (by simp) rfl) rfl
      have e102 : a'.eval (.tmp 102) = .bool false := hs.eval 33 _ 102 rfl (hdep ⟨33, .data⟩ (by simp) rfl) rfl
      refine g_val (.bool false) hS rfl ?_ rfl
      have hcn := BigFrame.eval_const a'; have hfn := BigFrame.eval_func a'; clear hs hdep; generalize a'.eval = ev at *; go_simp
    · go_light; intro listed a' w' hs hS hun hdep
      have e103 : a'.eval (.tmp 103) = .bool false := hs.eval 34 _ 103 rfl (hdep ⟨34, .data⟩ (by simp) rfl) rfl
      refine g_val (.bool false) hS rfl ?_ rfl
      have hcn := BigFrame.eval_const a'; have hfn := BigFrame.eval_func a'; clear hs hdep; generalize a'.eval = ev at *; go_simp
    · go_light; intro listed a' w' hs hS hun hdep
      have eg : a'.eval (.tmp 104) = .bool false := hs.eval 35 _ 104 rfl (hdep ⟨35, .guard⟩ (by simp) rfl) rfl
      have e15 : a'.eval (.tmp 15) = .bool (decide (0 ≤ f)) := (hs.out 15 (by kernel_rfl)).trans (rfl)
      refine g_val (.bool (decide (0 ≤ f))) hS (wanted_yes rfl rfl rfl eg) ?_ rfl
      have hcn := BigFrame.eval_const a'; have hfn := BigFrame.eval_func a'; clear hs hdep; generalize a'.eval = ev at *; go_simp
    · go_light; intro listed a' w' hs hS hun hdep
      have eg : a'.eval (.tmp 104) = .bool false := hs.eval 35 _ 104 rfl (hdep ⟨35, .guard⟩ (by simp) rfl) rfl
      have e16 : a'.eval (.tmp 16) = .int .i64 f := (hs.out 16 (by kernel_rfl)).trans (rfl)
      refine g_val (.int .i64 f) hS (wanted_yes rfl rfl rfl eg) ?_ rfl
      have hcn := BigFrame.eval_const a'; have hfn := BigFrame.eval_func a'; clear hs hdep; generalize a'.eval = ev at *; go_simp
    · go_light; intro listed a' w' hs hS hun hdep
      have eg : a'.eval (.tmp 104) = .bool false := hs.eval 35 _ 104 rfl (hdep ⟨35, .guard⟩ (by simp) rfl) rfl
      have e106 : a'.eval (.tmp 106) = .int .i64 f := hs.eval 37 _ 106 rfl (hdep ⟨37, .data⟩ (by simp) rfl) rfl
      refine g_val (.bool (decide (0 ≤ f))) hS (wanted_yes rfl rfl rfl eg) ?_ rfl
      have hcn := BigFrame.eval_const a'; have hfn := BigFrame.eval_func a'; clear hs hdep; generalize a'.eval = ev at *; go_simp
    · go_light; intro listed a' w' hs hS hun hdep
      have eg : a'.eval (.tmp 104) = .bool false := hs.eval 35 _ 104 rfl (hdep ⟨35, .guard⟩ (by simp) rfl) rfl
      have e105 : a'.eval (.tmp 105) = .bool (decide (0 ≤ f)) := hs.eval 36 _ 105 rfl (hdep ⟨36, .data⟩ (by simp) rfl) rfl
      have e107 : a'.eval (.tmp 107) = .bool (decide (0 ≤ f)) := hs.eval 38 _ 107 rfl (hdep ⟨38, .data⟩ (by simp) rfl) rfl
      refine g_val (.bool false) hS (wanted_yes rfl rfl rfl eg) ?_ rfl
      have hcn := BigFrame.eval_const a'; have hfn := BigFrame.eval_func a'; clear hs hdep; generalize a'.eval = ev at *; go_simp
    · go_light; intro listed a' w' hs hS hun hdep
      have e104 : a'.eval (.tmp 104) = .bool false := hs.eval 35 _ 104 rfl (hdep ⟨35, .data⟩ (by simp) rfl) rfl
      have e108 : a'.eval (.tmp 108) = .bool false := hs.eval 39 _ 108 rfl (hdep ⟨39, .data⟩ (by simp) rfl) rfl
      refine g_val (.bool false) hS rfl ?_ rfl
      have hcn := BigFrame.eval_const a'; have hfn := BigFrame.eval_func a'; clear hs hdep; generalize a'.eval = ev at *; go_simp
    · go_light; intro listed a' w' hs hS hun hdep
      have e109 : a'.eval (.tmp 109) = .bool false := hs.eval 40 _ 109 rfl (hdep ⟨40, .data⟩ (by simp) rfl) rfl
      refine g_val (.bool false) hS rfl ?_ rfl
      have hcn := BigFrame.eval_const a'; have hfn := BigFrame.eval_func a'; clear hs hdep; generalize a'.eval = ev at *; go_simp
    · go_light; intro listed a' w' hs hS hun hdep
      have eg : a'.eval (.tmp 110) = .bool false := hs.eval 41 _ 110 rfl (hdep ⟨41, .guard⟩ (by simp) rfl) rfl
      have e14 : a'.eval (.tmp 14) = .int .i64 (max f 0) := (hs.out 14 (by kernel_rfl)).trans (rfl)
      refine g_val (.int .i64 (max f 0)) hS (wanted_yes rfl rfl rfl eg) ?_ rfl
      have hcn := BigFrame.eval_const a'; have hfn := BigFrame.eval_func a'; clear hs hdep; generalize a'.eval = ev at *; go_simp
    · go_light; intro listed a' w' hs hS hun hdep
      have eg : a'.eval (.tmp 110) = .bool false := hs.eval 41 _ 110 rfl (hdep ⟨41, .guard⟩ (by simp) rfl) rfl
      have e16 : a'.eval (.tmp 16) = .int .i64 f := (hs.out 16 (by kernel_rfl)).trans (rfl)
      refine g_val (.int .i64 f) hS (wanted_yes rfl rfl rfl eg) ?_ rfl
      have hcn := BigFrame.eval_const a'; have hfn := BigFrame.eval_func a'; clear hs hdep; generalize a'.eval = ev at *; go_simp
    · go_light; intro listed a' w' hs hS hun hdep
      have eg : a'.eval (.tmp 110) = .bool false := hs.eval 41 _ 110 rfl (hdep ⟨41, .guard⟩ (by simp) rfl) rfl
      have e112 : a'.eval (.tmp 112) = .int .i64 f := hs.eval 43 _ 112 rfl (hdep ⟨43, .data⟩ (by simp) rfl) rfl
      refine g_val (.int .i64 (max f 0)) hS (wanted_yes rfl rfl rfl eg) ?_ rfl
      have hmx := HMx.out
      have hcn := BigFrame.eval_const a'; have hfn := BigFrame.eval_func a'; clear hs hdep; generalize a'.eval = ev at *
      clear hbw5
      by_cases hf0 : f < 0 <;> go_simp <;> omega
    · go_light; intro listed a' w' hs hS hun hdep
      have eg : a'.eval (.tmp 110) = .bool false := hs.eval 41 _ 110 rfl (hdep ⟨41, .guard⟩ (by simp) rfl) rfl
      have e111 : a'.eval (.tmp 111) = .int .i64 (max f 0) := hs.eval 42 _ 111 rfl (hdep ⟨42, .data⟩ (by simp) rfl) rfl
      have e113 : a'.eval (.tmp 113) = .int .i64 (max f 0) := hs.eval 44 _ 113 rfl (hdep ⟨44, .data⟩ (by simp) rfl) rfl
      refine g_val (.bool false) hS (wanted_yes rfl rfl rfl eg) ?_ rfl
      have hcn := BigFrame.eval_const a'; have hfn := BigFrame.eval_func a'; clear hs hdep; generalize a'.eval = ev at *; go_simp
    · go_light; intro listed a' w' hs hS hun hdep
      have e110 : a'.eval (.tmp 110) = .bool false := hs.eval 41 _ 110 rfl (hdep ⟨41, .data⟩ (by simp) rfl) rfl
      have e114 : a'.eval (.tmp 114) = .bool false := hs.eval 45 _ 114 rfl (hdep ⟨45, .data⟩ (by simp) rfl) rfl
      refine g_val (.bool false) hS rfl ?_ rfl
      have hcn := BigFrame.eval_const a'; have hfn := BigFrame.eval_func a'; clear hs hdep; generalize a'.eval = ev at *; go_simp
    · intro vs w6 hlen hV listed hall hS
      obtain ⟨v0, v1, v2, v3, v4, v5, v6, v7, v8, v9, v10, v11, v12, v13, v14, v15, v16, v17, v18, v19, v20, v21, v22, v23, v24, v25, v26, v27, v28, v29, v30, v31, v32, v33, v34, v35, v36, v37, v38, v39, v40, v41, v42, v43, v44, v45, v46, rfl⟩ := vs47 vs (hlen.trans rfl)
      have q0 : v0 = .pointer (some ⟨g, 0, none⟩) := hV 0 _ rfl
      have q1 : v1 = .int .i64 (l.length : Nat) := hV 1 _ rfl
      have q2 : v2 = .slice (some ⟨b, off, none⟩) l.length cap := hV 2 _ rfl
      have q3 : v3 = .int .i64 (l.length : Nat) := hV 3 _ rfl
      have q4 : v4 = .bool false := hV 4 _ rfl
      have q5 : v5 = .bool false := hV 5 _ rfl
      have q6 : v6 = .slice a2 l.length c2 := hV 6 _ rfl
      have q7 : v7 = .int .i64 (l.length : Nat) := hV 7 _ rfl
      have q8 : v8 = .slice (some ⟨b, off, none⟩) l.length cap := hV 8 _ rfl
      have q9 : v9 = .int .i64 (l.length : Nat) := hV 9 _ rfl
      have q10 : v10 = .bool false := hV 10 _ rfl
      have q11 : v11 = .bool false := hV 11 _ rfl
      have q12 : v12 = .bool false := hV 12 _ rfl
      have q13 : v13 = .bool true := hV 13 _ rfl
      have q14 : v14 = .int .i64 k := hV 14 _ rfl
      have q15 : v15 = .bool true := hV 15 _ rfl
      have q16 : v16 = .bool true := hV 16 _ rfl
      have q17 : v17 = .int .i64 k := hV 17 _ rfl
      have q18 : v18 = .slice (some ⟨b, off, none⟩) l.length cap := hV 18 _ rfl
      have q19 : v19 = .int .i64 (l.length : Nat) := hV 19 _ rfl
      have q20 : v20 = .bool true := hV 20 _ rfl
      have q21 : v21 = .bool true := hV 21 _ rfl
      have q22 : v22 = .bool false := hV 22 _ rfl
      have q23 : v23 = .bool false := hV 23 _ rfl
      have q24 : v24 = .bool false := hV 24 _ rfl
      have q25 : v25 = .bool true := hV 25 _ rfl
      have q26 : v26 = .bool true := hV 26 _ rfl
      have q27 : v27 = .agg (L.lv y.1 y.2) := hV 27 _ rfl
      have q28 : v28 = .slice (some ⟨b, off, none⟩) l.length cap := hV 28 _ rfl
      have q29 : v29 = .int .i64 k := hV 29 _ rfl
      have q30 : v30 = .pointer (some ⟨b, off + k * 31, none⟩) := hV 30 _ rfl
      have q31 : v31 = .agg (L.lv y.1 y.2) := hV 31 _ rfl
      have q32 : v32 = .bool false := hV 32 _ rfl
      have q33 : v33 = .bool false := hV 33 _ rfl
      have q34 : v34 = .bool false := hV 34 _ rfl
      have q35 : v35 = .bool false := hV 35 _ rfl
      have q36 : v36 = .bool (decide (0 ≤ f)) := hV 36 _ rfl
      have q37 : v37 = .int .i64 f := hV 37 _ rfl
      have q38 : v38 = .bool (decide (0 ≤ f)) := hV 38 _ rfl
      have q39 : v39 = .bool false := hV 39 _ rfl
      have q40 : v40 = .bool false := hV 40 _ rfl
      have q41 : v41 = .bool false := hV 41 _ rfl
      have q42 : v42 = .int .i64 (max f 0) := hV 42 _ rfl
      have q43 : v43 = .int .i64 f := hV 43 _ rfl
      have q44 : v44 = .int .i64 (max f 0) := hV 44 _ rfl
      have q45 : v45 = .bool false := hV 45 _ rfl
      have q46 : v46 = .bool false := hV 46 _ rfl
      have hbel : Below wq.heap.size wq w6 := hS
      subst q0 q1 q2 q3 q4 q5 q6 q7 q8 q9 q10 q11 q12 q13 q14 q15 q16 q17 q18 q19 q20 q21 q22 q23 q24 q25 q26 q27 q28 q29 q30 q31 q32 q33 q34 q35 q36 q37 q38 q39 q40 q41 q42 q43 q44 q45 q46
      clear hV hS hall
      simp only [lays, Act.put, List.setIfInBounds_toArray, List.set_cons_zero, List.set_cons_succ]
      have hbz := hbw5.trans (hbel.mono hbw5.size)
      have HAll := Lib.hid (HAl.out.below hbel)
      have HRow := Lib.hid (HR5.out.below hbel)
      clear hbel HT HA HAl HR5 HLen HMx
      clear HRk hny h1' h2' hk
      go_wp2
      go_loopw [18] (fun i wr => ∃ k : Nat, k ≤ l.length ∧ i = .int .i64 k ∧ Below w6.heap.size w6 wr) (fun i _ => l.length - (intOf i).toNat)
      case atStart => exact ⟨0, Nat.zero_le _, rfl, Below.refl _ _⟩
      case round =>
        obtain ⟨k, hk, rfl, hb⟩ := hrel
        by_cases hlt : k < l.length
        · obtain ⟨b1, off1, eb1, _, hr1⟩ := labs_row (HRow.out.below hb) k hlt
          injection eb1 with eb1
          injection eb1 with eb1 eb2
          subst eb1 eb2
          obtain ⟨b2, off2, rfl, _, hr2⟩ := labs_row (HAll.out.below hb) k hlt
          have HR1 := Lib.hid (fun w' (hS : Below wr.heap.size wr w') => hr1 k hlt w' hS)
          have HR2 := Lib.hid (fun w' (hS : Below wr.heap.size wr w') => hr2 k hlt w' hS)
          have hnx : (lab l k).2 < 2 ^ 240 := (Hok.out _ (lab_mem l k hlt)).2
          have hlt' : (k : Int) < (l.length : Int) := by omega
          clear hr1 hr2
          generalize lab l k = x at *
          go_wp2
          refine region_gen (VG wr.heap.size [.val (.slice (some ⟨b2, off2, none⟩) l.length c2), .val (.int .i64 k), .val (.pointer (some ⟨b2, off2 + k * 31, none⟩)), .val (.agg (L.lv x.1 x.2)), .val (.slice (some ⟨b, off, none⟩) l.length cap), .val (.int .i64 k), .val (.pointer (some ⟨b, off + k * 31, none⟩)), .val (.agg (L.lv x.1 x.2)), .val (.bool false)]) (BS wr) (by kernel_rfl) (by kernel_rfl) (Below.refl _ _).drew ⟨?_, ?_, ?_, ?_, ?_, ?_, ?_, ?_, ?_, trivial⟩ ?_
          · go_light; intro listed a' w' hs hS hun hdep
            have e17 : a'.eval (.tmp 17) = .slice (some ⟨b2, off2, none⟩) l.length c2 := (hs.out 17 (by kernel_rfl)).trans (rfl)
            refine g_val (.slice (some ⟨b2, off2, none⟩) l.length c2) hS rfl ?_ rfl
            have hcn := BigFrame.eval_const a'; have hfn := BigFrame.eval_func a'; clear hs hdep; generalize a'.eval = ev at *; go_simp
          · go_light; intro listed a' w' hs hS hun hdep
            have e18 : a'.eval (.tmp 18) = .int .i64 k := (hs.out 18 (by kernel_rfl)).trans (rfl)
            refine g_val (.int .i64 k) hS rfl ?_ rfl
            have hcn := BigFrame.eval_const a'; have hfn := BigFrame.eval_func a'; clear hs hdep; generalize a'.eval = ev at *; go_simp
          · go_light; intro listed a' w' hs hS hun hdep
            have e122 : a'.eval (.tmp 122) = .slice (some ⟨b2, off2, none⟩) l.length c2 := hs.eval 0 _ 122 rfl (hdep ⟨0, .data⟩ (by simp) rfl) rfl
            have e123 : a'.eval (.tmp 123) = .int .i64 k := hs.eval 1 _ 123 rfl (hdep ⟨1, .data⟩ (by simp) rfl) rfl
            refine g_val (.pointer (some ⟨b2, off2 + k * 31, none⟩)) hS rfl ?_ rfl
            have hcn := BigFrame.eval_const a'; have hfn := BigFrame.eval_func a'; clear hs hdep; generalize a'.eval = ev at *; go_simp
          · go_light; intro listed a' w' hs hS hun hdep
            have e124 : a'.eval (.tmp 124) = .pointer (some ⟨b2, off2 + k * 31, none⟩) := hs.eval 2 _ 124 rfl (hdep ⟨2, .data⟩ (by simp) rfl) rfl
            exact g_val (.agg (L.lv x.1 x.2)) hS rfl (run_op_load_mid rfl e124 (HR2.out w' hS)) rfl
          · go_light; intro listed a' w' hs hS hun hdep
            have e0 : a'.eval (.tmp 0) = .slice (some ⟨b, off, none⟩) l.length cap := (hs.out 0 (by kernel_rfl)).trans (rfl)
            refine g_val (.slice (some ⟨b, off, none⟩) l.length cap) hS rfl ?_ rfl
            have hcn := BigFrame.eval_const a'; have hfn := BigFrame.eval_func a'; clear hs hdep; generalize a'.eval = ev at *; go_simp
          · go_light; intro listed a' w' hs hS hun hdep
            have e18 : a'.eval (.tmp 18) = .int .i64 k := (hs.out 18 (by kernel_rfl)).trans (rfl)
            refine g_val (.int .i64 k) hS rfl ?_ rfl
            have hcn := BigFrame.eval_const a'; have hfn := BigFrame.eval_func a'; clear hs hdep; generalize a'.eval = ev at *; go_simp
          · go_light; intro listed a' w' hs hS hun hdep
            have e126 : a'.eval (.tmp 126) = .slice (some ⟨b, off, none⟩) l.length cap := hs.eval 4 _ 126 rfl (hdep ⟨4, .data⟩ (by simp) rfl) rfl
            have e127 : a'.eval (.tmp 127) = .int .i64 k := hs.eval 5 _ 127 rfl (hdep ⟨5, .data⟩ (by simp) rfl) rfl
            refine g_val (.pointer (some ⟨b, off + k * 31, none⟩)) hS rfl ?_ rfl
            have hcn := BigFrame.eval_const a'; have hfn := BigFrame.eval_func a'; clear hs hdep; generalize a'.eval = ev at *; go_simp
          · go_light; intro listed a' w' hs hS hun hdep
            have e128 : a'.eval (.tmp 128) = .pointer (some ⟨b, off + k * 31, none⟩) := hs.eval 6 _ 128 rfl (hdep ⟨6, .data⟩ (by simp) rfl) rfl
            exact g_val (.agg (L.lv x.1 x.2)) hS rfl (run_op_load_mid rfl e128 (HR1.out w' hS)) rfl
          · go_light; intro listed a' w' hs hS hun hdep
            have e125 : a'.eval (.tmp 125) = .agg (L.lv x.1 x.2) := hs.eval 3 _ 125 rfl (hdep ⟨3, .data⟩ (by simp) rfl) rfl
            have e129 : a'.eval (.tmp 129) = .agg (L.lv x.1 x.2) := hs.eval 7 _ 129 rfl (hdep ⟨7, .data⟩ (by simp) rfl) rfl
            exact g_val (.bool false) hS rfl ((run_op_neq_lab rfl e125 e129 hnx hnx).trans (by simp)) rfl
          · intro vs w8 hlen hV listed hall hS
            obtain ⟨v0, v1, v2, v3, v4, v5, v6, v7, v8, rfl⟩ := vs9 vs (hlen.trans rfl)
            have q0 : v0 = .slice (some ⟨b2, off2, none⟩) l.length c2 := hV 0 _ rfl
            have q1 : v1 = .int .i64 k := hV 1 _ rfl
            have q2 : v2 = .pointer (some ⟨b2, off2 + k * 31, none⟩) := hV 2 _ rfl
            have q3 : v3 = .agg (L.lv x.1 x.2) := hV 3 _ rfl
            have q4 : v4 = .slice (some ⟨b, off, none⟩) l.length cap := hV 4 _ rfl
            have q5 : v5 = .int .i64 k := hV 5 _ rfl
            have q6 : v6 = .pointer (some ⟨b, off + k * 31, none⟩) := hV 6 _ rfl
            have q7 : v7 = .agg (L.lv x.1 x.2) := hV 7 _ rfl
            have q8 : v8 = .bool false := hV 8 _ rfl
            have hbel : Below wr.heap.size wr w8 := hS
            subst q0 q1 q2 q3 q4 q5 q6 q7 q8
            clear hV hS hall
            simp only [lays, Act.put, List.setIfInBounds_toArray, List.set_cons_zero, List.set_cons_succ]
            have hbn := hb.trans (hbel.mono hb.size)
            clear HR1 HR2 hbel
            go_wp2
            go_roundw
            case rel => exact ⟨k + 1, by omega, by go_num, hbn⟩
            case measure => simp [intOf]; omega
        · obtain rfl : k = l.length := by omega
          have hlt' : ¬ (l.length : Int) < (l.length : Int) := by omega
          go_wp2_with fail
          refine (tab_awake _).mono ?_
          rintro e w9 ⟨rfl, hb9⟩
          have hbf := (hbz.trans (hb.mono hbz.size)).trans (hb9.mono (hbz.trans (hb.mono hbz.size)).size)
          go_wp2
          go_ret
          exact ⟨rfl, hbf⟩
  · have GQ : Hid (qi = false) := Lib.hid (by rw [← HQi.out]; exact decide_eq_false hn)
    rw [GQ.out]
    by_cases h0 : n < 0
    · have h1' : ¬ (0 : Int) ≤ n := by omega
      clear GQ HQi HY hn
      go_wp2
      refine region_gen (VG wq.heap.size [.val (.pointer (some ⟨g, 0, none⟩)), .val (.int .i64 (l.length : Nat)), .val (.slice a l.length cap), .val (.int .i64 (l.length : Nat)), .val (.bool false), .val (.bool false), .val (.slice a2 l.length c2), .val (.int .i64 (l.length : Nat)), .val (.slice a l.length cap), .val (.int .i64 (l.length : Nat)), .val (.bool false), .val (.bool false), .val (.bool false), .val (.bool false), .val (.int .i64 n), .val (.bool false), .val (.bool false), .any, .any, .any, .any, .val (.bool false), .val (.bool false), .val (.bool false), .val (.bool false), .val (.bool false), .val (.bool false), .any, .any, .any, .any, .any, .any, .val (.bool false), .val (.bool false), .val (.bool false), .val (.bool (decide (0 ≤ f))), .val (.int .i64 f), .val (.bool (decide (0 ≤ f))), .val (.bool false), .val (.bool false), .val (.bool false), .val (.int .i64 (max f 0)), .val (.int .i64 f), .val (.int .i64 (max f 0)), .val (.bool false), .val (.bool false)]) (BS wq) (by kernel_rfl) (by kernel_rfl) (Below.refl _ _).drew ⟨?_, ?_, ?_, ?_, ?_, ?_, ?_, ?_, ?_, ?_, ?_, ?_, ?_, ?_, ?_, ?_, ?_, ?_, ?_, ?_, ?_, ?_, ?_, ?_, ?_, ?_, ?_, ?_, ?_, ?_, ?_, ?_, ?_, ?_, ?_, ?_, ?_, ?_, ?_, ?_, ?_, ?_, ?_, ?_, ?_, ?_, ?_, trivial⟩ ?_
      · go_light; intro listed a' w' hs hS hun hdep
        have e7 : a'.eval (.tmp 7) = .pointer (some ⟨g, 0, none⟩) := (hs.out 7 (by kernel_rfl)).trans (rfl)
        refine g_val (.pointer (some ⟨g, 0, none⟩)) hS rfl ?_ rfl
        have hcn := BigFrame.eval_const a'; have hfn := BigFrame.eval_func a'; clear hs hdep; generalize a'.eval = ev at *; go_simp
      · go_light; intro listed a' w' hs hS hun hdep
        have e69 : a'.eval (.tmp 69) = .pointer (some ⟨g, 0, none⟩) := hs.eval 0 _ 69 rfl (hdep ⟨0, .data⟩ (by simp) rfl) rfl
        refine g_call 26 #[.pointer (some ⟨g, 0, none⟩)] hS rfl ?_ ?_
        · have hcn := BigFrame.eval_const a'; have hfn := BigFrame.eval_func a'; clear hs hdep; generalize a'.eval = ev at *; go_simp
        · exact c_val ((HLen.out w' (HT.out.below hS)).mono fun e w'' ⟨he, hw⟩ => ⟨he, by rw [hw]; exact Below.refl _ _⟩) rfl
      · go_light; intro listed a' w' hs hS hun hdep
        have e0 : a'.eval (.tmp 0) = .slice a l.length cap := (hs.out 0 (by kernel_rfl)).trans (rfl)
        refine g_val (.slice a l.length cap) hS rfl ?_ rfl
        have hcn := BigFrame.eval_const a'; have hfn := BigFrame.eval_func a'; clear hs hdep; generalize a'.eval = ev at *; go_simp
      · go_light; intro listed a' w' hs hS hun hdep
        have e71 : a'.eval (.tmp 71) = .slice a l.length cap := hs.eval 2 _ 71 rfl (hdep ⟨2, .data⟩ (by simp) rfl) rfl
        refine g_val (.int .i64 (l.length : Nat)) hS rfl ?_ rfl
        have hcn := BigFrame.eval_const a'; have hfn := BigFrame.eval_func a'; clear hs hdep; generalize a'.eval = ev at *; go_simp
      · go_light; intro listed a' w' hs hS hun hdep
        have e70 : a'.eval (.tmp 70) = .int .i64 (l.length : Nat) := hs.eval 1 _ 70 rfl (hdep ⟨1, .data⟩ (by simp) rfl) rfl
        have e72 : a'.eval (.tmp 72) = .int .i64 (l.length : Nat) := hs.eval 3 _ 72 rfl (hdep ⟨3, .data⟩ (by simp) rfl) rfl
        refine g_val (.bool false) hS rfl ?_ rfl
        have hcn := BigFrame.eval_const a'; have hfn := BigFrame.eval_func a'; clear hs hdep; generalize a'.eval = ev at *; go_simp
      · go_light; intro listed a' w' hs hS hun hdep
        have e73 : a'.eval (.tmp 73) = .bool false := hs.eval 4 _ 73 rfl (hdep ⟨4, .data⟩ (by simp) rfl) rfl
        refine g_val (.bool false) hS rfl ?_ rfl
        have hcn := BigFrame.eval_const a'; have hfn := BigFrame.eval_func a'; clear hs hdep; generalize a'.eval = ev at *; go_simp
      · go_light; intro listed a' w' hs hS hun hdep
        have eg : a'.eval (.tmp 74) = .bool false := hs.eval 5 _ 74 rfl (hdep ⟨5, .guard⟩ (by simp) rfl) rfl
        have e17 : a'.eval (.tmp 17) = .slice a2 l.length c2 := (hs.out 17 (by kernel_rfl)).trans (rfl)
        refine g_val (.slice a2 l.length c2) hS (wanted_yes rfl rfl rfl eg) ?_ rfl
        have hcn := BigFrame.eval_const a'; have hfn := BigFrame.eval_func a'; clear hs hdep; generalize a'.eval = ev at *; go_simp
      · go_light; intro listed a' w' hs hS hun hdep
        have eg : a'.eval (.tmp 74) = .bool false := hs.eval 5 _ 74 rfl (hdep ⟨5, .guard⟩ (by simp) rfl) rfl
        have e75 : a'.eval (.tmp 75) = .slice a2 l.length c2 := hs.eval 6 _ 75 rfl (hdep ⟨6, .data⟩ (by simp) rfl) rfl
        refine g_val (.int .i64 (l.length : Nat)) hS (wanted_yes rfl rfl rfl eg) ?_ rfl
        have hcn := BigFrame.eval_const a'; have hfn := BigFrame.eval_func a'; clear hs hdep; generalize a'.eval = ev at *; go_simp
      · go_light; intro listed a' w' hs hS hun hdep
        have eg : a'.eval (.tmp 74) = .bool false := hs.eval 5 _ 74 rfl (hdep ⟨5, .guard⟩ (by simp) rfl) rfl
        have e0 : a'.eval (.tmp 0) = .slice a l.length cap := (hs.out 0 (by kernel_rfl)).trans (rfl)
        refine g_val (.slice a l.length cap) hS (wanted_yes rfl rfl rfl eg) ?_ rfl
        have hcn := BigFrame.eval_const a'; have hfn := BigFrame.eval_func a'; clear hs hdep; generalize a'.eval = ev at *; go_simp
      · go_light; intro listed a' w' hs hS hun hdep
        have eg : a'.eval (.tmp 74) = .bool false := hs.eval 5 _ 74 rfl (hdep ⟨5, .guard⟩ (by simp) rfl) rfl
        have e77 : a'.eval (.tmp 77) = .slice a l.length cap := hs.eval 8 _ 77 rfl (hdep ⟨8, .data⟩ (by simp) rfl) rfl
        refine g_val (.int .i64 (l.length : Nat)) hS (wanted_yes rfl rfl rfl eg) ?_ rfl
        have hcn := BigFrame.eval_const a'; have hfn := BigFrame.eval_func a'; clear hs hdep; generalize a'.eval = ev at *; go_simp
      · go_light; intro listed a' w' hs hS hun hdep
        have eg : a'.eval (.tmp 74) = .bool false := hs.eval 5 _ 74 rfl (hdep ⟨5, .guard⟩ (by simp) rfl) rfl
        have e76 : a'.eval (.tmp 76) = .int .i64 (l.length : Nat) := hs.eval 7 _ 76 rfl (hdep ⟨7, .data⟩ (by simp) rfl) rfl
        have e78 : a'.eval (.tmp 78) = .int .i64 (l.length : Nat) := hs.eval 9 _ 78 rfl (hdep ⟨9, .data⟩ (by simp) rfl) rfl
        refine g_val (.bool false) hS (wanted_yes rfl rfl rfl eg) ?_ rfl
        have hcn := BigFrame.eval_const a'; have hfn := BigFrame.eval_func a'; clear hs hdep; generalize a'.eval = ev at *; go_simp
      · go_light; intro listed a' w' hs hS hun hdep
        have e74 : a'.eval (.tmp 74) = .bool false := hs.eval 5 _ 74 rfl (hdep ⟨5, .data⟩ (by simp) rfl) rfl
        have e79 : a'.eval (.tmp 79) = .bool false := hs.eval 10 _ 79 rfl (hdep ⟨10, .data⟩ (by simp) rfl) rfl
        refine g_val (.bool false) hS rfl ?_ rfl
        have hcn := BigFrame.eval_const a'; have hfn := BigFrame.eval_func a'; clear hs hdep; generalize a'.eval = ev at *; go_simp
      · go_light; intro listed a' w' hs hS hun hdep
        have e80 : a'.eval (.tmp 80) = .bool false := hs.eval 11 _ 80 rfl (hdep ⟨11, .data⟩ (by simp) rfl) rfl
        refine g_val (.bool false) hS rfl ?_ rfl
        have hcn := BigFrame.eval_const a'; have hfn := BigFrame.eval_func a'; clear hs hdep; generalize a'.eval = ev at *; go_simp
      · go_light; intro listed a' w' hs hS hun hdep
        have eg : a'.eval (.tmp 81) = .bool false := hs.eval 12 _ 81 rfl (hdep ⟨12, .guard⟩ (by simp) rfl) rfl
        have e13 : a'.eval (.tmp 13) = .bool false := (hs.out 13 (by kernel_rfl)).trans (rfl)
        refine g_val (.bool false) hS (wanted_yes rfl rfl rfl eg) ?_ rfl
        have hcn := BigFrame.eval_const a'; have hfn := BigFrame.eval_func a'; clear hs hdep; generalize a'.eval = ev at *; go_simp
      · go_light; intro listed a' w' hs hS hun hdep
        have eg : a'.eval (.tmp 81) = .bool false := hs.eval 12 _ 81 rfl (hdep ⟨12, .guard⟩ (by simp) rfl) rfl
        have e1 : a'.eval (.tmp 1) = .int .i64 n := (hs.out 1 (by kernel_rfl)).trans (rfl)
        refine g_val (.int .i64 n) hS (wanted_yes rfl rfl rfl eg) ?_ rfl
        have hcn := BigFrame.eval_const a'; have hfn := BigFrame.eval_func a'; clear hs hdep; generalize a'.eval = ev at *; go_simp
      · go_light; intro listed a' w' hs hS hun hdep
        have eg : a'.eval (.tmp 81) = .bool false := hs.eval 12 _ 81 rfl (hdep ⟨12, .guard⟩ (by simp) rfl) rfl
        have e83 : a'.eval (.tmp 83) = .int .i64 n := hs.eval 14 _ 83 rfl (hdep ⟨14, .data⟩ (by simp) rfl) rfl
        refine g_val (.bool false) hS (wanted_yes rfl rfl rfl eg) ?_ rfl
        have hcn := BigFrame.eval_const a'; have hfn := BigFrame.eval_func a'; clear hs hdep; generalize a'.eval = ev at *; go_simp
      · go_light; intro listed a' w' hs hS hun hdep
        have eg : a'.eval (.tmp 81) = .bool false := hs.eval 12 _ 81 rfl (hdep ⟨12, .guard⟩ (by simp) rfl) rfl
        have e84 : a'.eval (.tmp 84) = .bool false := hs.eval 15 _ 84 rfl (hdep ⟨15, .data⟩ (by simp) rfl) rfl
        refine g_val (.bool false) hS (wanted_yes rfl rfl rfl eg) ?_ rfl
        have hcn := BigFrame.eval_const a'; have hfn := BigFrame.eval_func a'; clear hs hdep; generalize a'.eval = ev at *; go_simp
      · go_light; intro listed a' w' hs hS hun hdep
        have eg : a'.eval (.tmp 85) = .bool false := hs.eval 16 _ 85 rfl (hdep ⟨16, .guard⟩ (by simp) rfl) rfl
        exact g_not hS (wanted_no rfl rfl rfl eg (by decide)) trivial
      · go_light; intro listed a' w' hs hS hun hdep
        have eg : a'.eval (.tmp 85) = .bool false := hs.eval 16 _ 85 rfl (hdep ⟨16, .guard⟩ (by simp) rfl) rfl
        exact g_not hS (wanted_no rfl rfl rfl eg (by decide)) trivial
      · go_light; intro listed a' w' hs hS hun hdep
        have eg : a'.eval (.tmp 85) = .bool false := hs.eval 16 _ 85 rfl (hdep ⟨16, .guard⟩ (by simp) rfl) rfl
        exact g_not hS (wanted_no rfl rfl rfl eg (by decide)) trivial
      · go_light; intro listed a' w' hs hS hun hdep
        have eg : a'.eval (.tmp 85) = .bool false := hs.eval 16 _ 85 rfl (hdep ⟨16, .guard⟩ (by simp) rfl) rfl
        exact g_not hS (wanted_no rfl rfl rfl eg (by decide)) trivial
      · go_light; intro listed a' w' hs hS hun hdep
        have eg : a'.eval (.tmp 81) = .bool false := hs.eval 12 _ 81 rfl (hdep ⟨12, .guard⟩ (by simp) rfl) rfl
        have e85 : a'.eval (.tmp 85) = .bool false := hs.eval 16 _ 85 rfl (hdep ⟨16, .data⟩ (by simp) rfl) rfl
        refine g_val (.bool false) hS (wanted_yes rfl rfl rfl eg) ?_ rfl
        have hcn := BigFrame.eval_const a'; have hfn := BigFrame.eval_func a'; clear hs hdep; generalize a'.eval = ev at *; go_simp
      · go_light; intro listed a' w' hs hS hun hdep
        have eg : a'.eval (.tmp 81) = .bool false := hs.eval 12 _ 81 rfl (hdep ⟨12, .guard⟩ (by simp) rfl) rfl
        have e82 : a'.eval (.tmp 82) = .bool false := hs.eval 13 _ 82 rfl (hdep ⟨13, .data⟩ (by simp) rfl) rfl
        have e90 : a'.eval (.tmp 90) = .bool false := hs.eval 21 _ 90 rfl (hdep ⟨21, .data⟩ (by simp) rfl) rfl
        refine g_val (.bool false) hS (wanted_yes rfl rfl rfl eg) ?_ rfl
        have hcn := BigFrame.eval_const a'; have hfn := BigFrame.eval_func a'; clear hs hdep; generalize a'.eval = ev at *; go_simp
      · go_light; intro listed a' w' hs hS hun hdep
        have e81 : a'.eval (.tmp 81) = .bool false := hs.eval 12 _ 81 rfl (hdep ⟨12, .data⟩ (by simp) rfl) rfl
        have e91 : a'.eval (.tmp 91) = .bool false := hs.eval 22 _ 91 rfl (hdep ⟨22, .data⟩ (by simp) rfl) rfl
        refine g_val (.bool false) hS rfl ?_ rfl
        have hcn := BigFrame.eval_const a'; have hfn := BigFrame.eval_func a'; clear hs hdep; generalize a'.eval = ev at *; go_simp
      · go_light; intro listed a' w' hs hS hun hdep
        have e92 : a'.eval (.tmp 92) = .bool false := hs.eval 23 _ 92 rfl (hdep ⟨23, .data⟩ (by simp) rfl) rfl
        refine g_val (.bool false) hS rfl ?_ rfl
        have hcn := BigFrame.eval_const a'; have hfn := BigFrame.eval_func a'; clear hs hdep; generalize a'.eval = ev at *; go_simp
      · go_light; intro listed a' w' hs hS hun hdep
        have eg : a'.eval (.tmp 93) = .bool false := hs.eval 24 _ 93 rfl (hdep ⟨24, .guard⟩ (by simp) rfl) rfl
        have e13 : a'.eval (.tmp 13) = .bool false := (hs.out 13 (by kernel_rfl)).trans (rfl)
        refine g_val (.bool false) hS (wanted_yes rfl rfl rfl eg) ?_ rfl
        have hcn := BigFrame.eval_const a'; have hfn := BigFrame.eval_func a'; clear hs hdep; generalize a'.eval = ev at *; go_simp
      · go_light; intro listed a' w' hs hS hun hdep
        have eg : a'.eval (.tmp 93) = .bool false := hs.eval 24 _ 93 rfl (hdep ⟨24, .guard⟩ (by simp) rfl) rfl
        have e94 : a'.eval (.tmp 94) = .bool false := hs.eval 25 _ 94 rfl (hdep ⟨25, .data⟩ (by simp) rfl) rfl
        refine g_val (.bool false) hS (wanted_yes rfl rfl rfl eg) ?_ rfl
        have hcn := BigFrame.eval_const a'; have hfn := BigFrame.eval_func a'; clear hs hdep; generalize a'.eval = ev at *; go_simp
      · go_light; intro listed a' w' hs hS hun hdep
        have eg : a'.eval (.tmp 95) = .bool false := hs.eval 26 _ 95 rfl (hdep ⟨26, .guard⟩ (by simp) rfl) rfl
        exact g_not hS (wanted_no rfl rfl rfl eg (by decide)) trivial
      · go_light; intro listed a' w' hs hS hun hdep
        have eg : a'.eval (.tmp 95) = .bool false := hs.eval 26 _ 95 rfl (hdep ⟨26, .guard⟩ (by simp) rfl) rfl
        exact g_not hS (wanted_no rfl rfl rfl eg (by decide)) trivial
      · go_light; intro listed a' w' hs hS hun hdep
        have eg : a'.eval (.tmp 95) = .bool false := hs.eval 26 _ 95 rfl (hdep ⟨26, .guard⟩ (by simp) rfl) rfl
        exact g_not hS (wanted_no rfl rfl rfl eg (by decide)) trivial
      · go_light; intro listed a' w' hs hS hun hdep
        have eg : a'.eval (.tmp 95) = .bool false := hs.eval 26 _ 95 rfl (hdep ⟨26, .guard⟩ (by simp) rfl) rfl
        exact g_not hS (wanted_no rfl rfl rfl eg (by decide)) trivial
      · go_light; intro listed a' w' hs hS hun hdep
        have eg : a'.eval (.tmp 95) = .bool false := hs.eval 26 _ 95 rfl (hdep ⟨26, .guard⟩ (by simp) rfl) rfl
        exact g_not hS (wanted_no rfl rfl rfl eg (by decide)) trivial
      · go_light; intro listed a' w' hs hS hun hdep
        have eg : a'.eval (.tmp 95) = .bool false := hs.eval 26 _ 95 rfl (hdep ⟨26, .guard⟩ (by simp) rfl) rfl
        exact g_not hS (wanted_no rfl rfl rfl eg (by decide)) trivial
      · go_light; intro listed a' w' hs hS hun hdep
        have eg : a'.eval (.tmp 93) = .bool false := hs.eval 24 _ 93 rfl (hdep ⟨24, .guard⟩ (by simp) rfl) rfl
        have e95 : a'.eval (.tmp 95) = .bool false := hs.eval 26 _ 95 rfl (hdep ⟨26, .data⟩ (by simp) rfl) rfl
        refine g_val (.bool false) hS (wanted_yes rfl rfl rfl eg) ?_ rfl
        have hcn := BigFrame.eval_const a'; have hfn := BigFrame.eval_func a'; clear hs hdep; generalize a'.eval = ev at *; go_simp
      · go_light; intro listed a' w' hs hS hun hdep
        have e93 : a'.eval (.tmp 93) = .bool false := hs.eval 24 _ 93 rfl (hdep ⟨24, .data⟩ (by simp) rfl) rfl
        have e102 : a'.eval (.tmp 102) = .bool false := hs.eval 33 _ 102 rfl (hdep ⟨33, .data⟩ (by simp) rfl) rfl
        refine g_val (.bool false) hS rfl ?_ rfl
        have hcn := BigFrame.eval_const a'; have hfn := BigFrame.eval_func a'; clear hs hdep; generalize a'.eval = ev at *; go_simp
      · go_light; intro listed a' w' hs hS hun hdep
        have e103 : a'.eval (.tmp 103) = .bool false := hs.eval 34 _ 103 rfl (hdep ⟨34, .data⟩ (by simp) rfl) rfl
        refine g_val (.bool false) hS rfl ?_ rfl
        have hcn := BigFrame.eval_const a'; have hfn := BigFrame.eval_func a'; clear hs hdep; generalize a'.eval = ev at *; go_simp
      · go_light; intro listed a' w' hs hS hun hdep
        have eg : a'.eval (.tmp 104) = .bool false := hs.eval 35 _ 104 rfl (hdep ⟨35, .guard⟩ (by simp) rfl) rfl
        have e15 : a'.eval (.tmp 15) = .bool (decide (0 ≤ f)) := (hs.out 15 (by kernel_rfl)).trans (rfl)
        refine g_val (.bool (decide (0 ≤ f))) hS (wanted_yes rfl rfl rfl eg) ?_ rfl
        have hcn := BigFrame.eval_const a'; have hfn := BigFrame.eval_func a'; clear hs hdep; generalize a'.eval = ev at *; go_simp
      · go_light; intro listed a' w' hs hS hun hdep
        have eg : a'.eval (.tmp 104) = .bool false := hs.eval 35 _ 104 rfl (hdep ⟨35, .guard⟩ (by simp) rfl) rfl
        have e16 : a'.eval (.tmp 16) = .int .i64 f := (hs.out 16 (by kernel_rfl)).trans (rfl)
        refine g_val (.int .i64 f) hS (wanted_yes rfl rfl rfl eg) ?_ rfl
        have hcn := BigFrame.eval_const a'; have hfn := BigFrame.eval_func a'; clear hs hdep; generalize a'.eval = ev at *; go_simp
      · go_light; intro listed a' w' hs hS hun hdep
        have eg : a'.eval (.tmp 104) = .bool false := hs.eval 35 _ 104 rfl (hdep ⟨35, .guard⟩ (by simp) rfl) rfl
        have e106 : a'.eval (.tmp 106) = .int .i64 f := hs.eval 37 _ 106 rfl (hdep ⟨37, .data⟩ (by simp) rfl) rfl
        refine g_val (.bool (decide (0 ≤ f))) hS (wanted_yes rfl rfl rfl eg) ?_ rfl
        have hcn := BigFrame.eval_const a'; have hfn := BigFrame.eval_func a'; clear hs hdep; generalize a'.eval = ev at *; go_simp
      · go_light; intro listed a' w' hs hS hun hdep
        have eg : a'.eval (.tmp 104) = .bool false := hs.eval 35 _ 104 rfl (hdep ⟨35, .guard⟩ (by simp) rfl) rfl
        have e105 : a'.eval (.tmp 105) = .bool (decide (0 ≤ f)) := hs.eval 36 _ 105 rfl (hdep ⟨36, .data⟩ (by simp) rfl) rfl
        have e107 : a'.eval (.tmp 107) = .bool (decide (0 ≤ f)) := hs.eval 38 _ 107 rfl (hdep ⟨38, .data⟩ (by simp) rfl) rfl
        refine g_val (.bool false) hS (wanted_yes rfl rfl rfl eg) ?_ rfl
        have hcn := BigFrame.eval_const a'; have hfn := BigFrame.eval_func a'; clear hs hdep; generalize a'.eval = ev at *; go_simp
      · go_light; intro listed a' w' hs hS hun hdep
        have e104 : a'.eval (.tmp 104) = .bool false := hs.eval 35 _ 104 rfl (hdep ⟨35, .data⟩ (by simp) rfl) rfl
        have e108 : a'.eval (.tmp 108) = .bool false := hs.eval 39 _ 108 rfl (hdep ⟨39, .data⟩ (by simp) rfl) rfl
        refine g_val (.bool false) hS rfl ?_ rfl
        have hcn := BigFrame.eval_const a'; have hfn := BigFrame.eval_func a'; clear hs hdep; generalize a'.eval = ev at *; go_simp
      · go_light; intro listed a' w' hs hS hun hdep
        have e109 : a'.eval (.tmp 109) = .bool false := hs.eval 40 _ 109 rfl (hdep ⟨40, .data⟩ (by simp) rfl) rfl
        refine g_val (.bool false) hS rfl ?_ rfl
        have hcn := BigFrame.eval_const a'; have hfn := BigFrame.eval_func a'; clear hs hdep; generalize a'.eval = ev at *; go_simp
      · go_light; intro listed a' w' hs hS hun hdep
        have eg : a'.eval (.tmp 110) = .bool false := hs.eval 41 _ 110 rfl (hdep ⟨41, .guard⟩ (by simp) rfl) rfl
        have e14 : a'.eval (.tmp 14) = .int .i64 (max f 0) := (hs.out 14 (by kernel_rfl)).trans (rfl)
        refine g_val (.int .i64 (max f 0)) hS (wanted_yes rfl rfl rfl eg) ?_ rfl
        have hcn := BigFrame.eval_const a'; have hfn := BigFrame.eval_func a'; clear hs hdep; generalize a'.eval = ev at *; go_simp
      · go_light; intro listed a' w' hs hS hun hdep
        have eg : a'.eval (.tmp 110) = .bool false := hs.eval 41 _ 110 rfl (hdep ⟨41, .guard⟩ (by simp) rfl) rfl
        have e16 : a'.eval (.tmp 16) = .int .i64 f := (hs.out 16 (by kernel_rfl)).trans (rfl)
        refine g_val (.int .i64 f) hS (wanted_yes rfl rfl rfl eg) ?_ rfl
        have hcn := BigFrame.eval_const a'; have hfn := BigFrame.eval_func a'; clear hs hdep; generalize a'.eval = ev at *; go_simp
      · go_light; intro listed a' w' hs hS hun hdep
        have eg : a'.eval (.tmp 110) = .bool false := hs.eval 41 _ 110 rfl (hdep ⟨41, .guard⟩ (by simp) rfl) rfl
        have e112 : a'.eval (.tmp 112) = .int .i64 f := hs.eval 43 _ 112 rfl (hdep ⟨43, .data⟩ (by simp) rfl) rfl
        refine g_val (.int .i64 (max f 0)) hS (wanted_yes rfl rfl rfl eg) ?_ rfl
        have hmx := HMx.out
        have hcn := BigFrame.eval_const a'; have hfn := BigFrame.eval_func a'; clear hs hdep; generalize a'.eval = ev at *
        clear hbw5
        by_cases hf0 : f < 0 <;> go_simp <;> omega
      · go_light; intro listed a' w' hs hS hun hdep
        have eg : a'.eval (.tmp 110) = .bool false := hs.eval 41 _ 110 rfl (hdep ⟨41, .guard⟩ (by simp) rfl) rfl
        have e111 : a'.eval (.tmp 111) = .int .i64 (max f 0) := hs.eval 42 _ 111 rfl (hdep ⟨42, .data⟩ (by simp) rfl) rfl
        have e113 : a'.eval (.tmp 113) = .int .i64 (max f 0) := hs.eval 44 _ 113 rfl (hdep ⟨44, .data⟩ (by simp) rfl) rfl
        refine g_val (.bool false) hS (wanted_yes rfl rfl rfl eg) ?_ rfl
        have hcn := BigFrame.eval_const a'; have hfn := BigFrame.eval_func a'; clear hs hdep; generalize a'.eval = ev at *; go_simp
      · go_light; intro listed a' w' hs hS hun hdep
        have e110 : a'.eval (.tmp 110) = .bool false := hs.eval 41 _ 110 rfl (hdep ⟨41, .data⟩ (by simp) rfl) rfl
        have e114 : a'.eval (.tmp 114) = .bool false := hs.eval 45 _ 114 rfl (hdep ⟨45, .data⟩ (by simp) rfl) rfl
        refine g_val (.bool false) hS rfl ?_ rfl
        have hcn := BigFrame.eval_const a'; have hfn := BigFrame.eval_func a'; clear hs hdep; generalize a'.eval = ev at *; go_simp
      · intro vs w6 hlen hV listed hall hS
        obtain ⟨v0, v1, v2, v3, v4, v5, v6, v7, v8, v9, v10, v11, v12, v13, v14, v15, v16, v17, v18, v19, v20, v21, v22, v23, v24, v25, v26, v27, v28, v29, v30, v31, v32, v33, v34, v35, v36, v37, v38, v39, v40, v41, v42, v43, v44, v45, v46, rfl⟩ := vs47 vs (hlen.trans rfl)
        have q0 : v0 = .pointer (some ⟨g, 0, none⟩) := hV 0 _ rfl
        have q1 : v1 = .int .i64 (l.length : Nat) := hV 1 _ rfl
        have q2 : v2 = .slice a l.length cap := hV 2 _ rfl
        have q3 : v3 = .int .i64 (l.length : Nat) := hV 3 _ rfl
        have q4 : v4 = .bool false := hV 4 _ rfl
        have q5 : v5 = .bool false := hV 5 _ rfl
        have q6 : v6 = .slice a2 l.length c2 := hV 6 _ rfl
        have q7 : v7 = .int .i64 (l.length : Nat) := hV 7 _ rfl
        have q8 : v8 = .slice a l.length cap := hV 8 _ rfl
        have q9 : v9 = .int .i64 (l.length : Nat) := hV 9 _ rfl
        have q10 : v10 = .bool false := hV 10 _ rfl
        have q11 : v11 = .bool false := hV 11 _ rfl
        have q12 : v12 = .bool false := hV 12 _ rfl
        have q13 : v13 = .bool false := hV 13 _ rfl
        have q14 : v14 = .int .i64 n := hV 14 _ rfl
        have q15 : v15 = .bool false := hV 15 _ rfl
        have q16 : v16 = .bool false := hV 16 _ rfl
        have q21 : v21 = .bool false := hV 21 _ rfl
        have q22 : v22 = .bool false := hV 22 _ rfl
        have q23 : v23 = .bool false := hV 23 _ rfl
        have q24 : v24 = .bool false := hV 24 _ rfl
        have q25 : v25 = .bool false := hV 25 _ rfl
        have q26 : v26 = .bool false := hV 26 _ rfl
        have q33 : v33 = .bool false := hV 33 _ rfl
        have q34 : v34 = .bool false := hV 34 _ rfl
        have q35 : v35 = .bool false := hV 35 _ rfl
        have q36 : v36 = .bool (decide (0 ≤ f)) := hV 36 _ rfl
        have q37 : v37 = .int .i64 f := hV 37 _ rfl
        have q38 : v38 = .bool (decide (0 ≤ f)) := hV 38 _ rfl
        have q39 : v39 = .bool false := hV 39 _ rfl
        have q40 : v40 = .bool false := hV 40 _ rfl
        have q41 : v41 = .bool false := hV 41 _ rfl
        have q42 : v42 = .int .i64 (max f 0) := hV 42 _ rfl
        have q43 : v43 = .int .i64 f := hV 43 _ rfl
        have q44 : v44 = .int .i64 (max f 0) := hV 44 _ rfl
        have q45 : v45 = .bool false := hV 45 _ rfl
        have q46 : v46 = .bool false := hV 46 _ rfl
        have hbel : Below wq.heap.size wq w6 := hS
        subst q0 q1 q2 q3 q4 q5 q6 q7 q8 q9 q10 q11 q12 q13 q14 q15 q16 q21 q22 q23 q24 q25 q26 q33 q34 q35 q36 q37 q38 q39 q40 q41 q42 q43 q44 q45 q46
        clear hV hS hall
        simp only [lays, Act.put, List.setIfInBounds_toArray, List.set_cons_zero, List.set_cons_succ]
        have hbz := hbw5.trans (hbel.mono hbw5.size)
        have HAll := Lib.hid (HAl.out.below hbel)
        have HRow := Lib.hid (HR5.out.below hbel)
        clear hbel HT HA HAl HR5 HLen HMx
        go_wp2
        go_loopw [18] (fun i wr => ∃ k : Nat, k ≤ l.length ∧ i = .int .i64 k ∧ Below w6.heap.size w6 wr) (fun i _ => l.length - (intOf i).toNat)
        case atStart => exact ⟨0, Nat.zero_le _, rfl, Below.refl _ _⟩
        case round =>
          obtain ⟨k, hk, rfl, hb⟩ := hrel
          by_cases hlt : k < l.length
          · obtain ⟨b1, off1, rfl, _, hr1⟩ := labs_row (HRow.out.below hb) k hlt
            obtain ⟨b2, off2, rfl, _, hr2⟩ := labs_row (HAll.out.below hb) k hlt
            have HR1 := Lib.hid (fun w' (hS : Below wr.heap.size wr w') => hr1 k hlt w' hS)
            have HR2 := Lib.hid (fun w' (hS : Below wr.heap.size wr w') => hr2 k hlt w' hS)
            have hnx : (lab l k).2 < 2 ^ 240 := (Hok.out _ (lab_mem l k hlt)).2
            have hlt' : (k : Int) < (l.length : Int) := by omega
            clear hr1 hr2
            generalize lab l k = x at *
            go_wp2
            refine region_gen (VG wr.heap.size [.val (.slice (some ⟨b2, off2, none⟩) l.length c2), .val (.int .i64 k), .val (.pointer (some ⟨b2, off2 + k * 31, none⟩)), .val (.agg (L.lv x.1 x.2)), .val (.slice (some ⟨b1, off1, none⟩) l.length cap), .val (.int .i64 k), .val (.pointer (some ⟨b1, off1 + k * 31, none⟩)), .val (.agg (L.lv x.1 x.2)), .val (.bool false)]) (BS wr) (by kernel_rfl) (by kernel_rfl) (Below.refl _ _).drew ⟨?_, ?_, ?_, ?_, ?_, ?_, ?_, ?_, ?_, trivial⟩ ?_
            · go_light; intro listed a' w' hs hS hun hdep
              have e17 : a'.eval (.tmp 17) = .slice (some ⟨b2, off2, none⟩) l.length c2 := (hs.out 17 (by kernel_rfl)).trans (rfl)
              refine g_val (.slice (some ⟨b2, off2, none⟩) l.length c2) hS rfl ?_ rfl
              have hcn := BigFrame.eval_const a'; have hfn := BigFrame.eval_func a'; clear hs hdep; generalize a'.eval = ev at *; go_simp
            · go_light; intro listed a' w' hs hS hun hdep
              have e18 : a'.eval (.tmp 18) = .int .i64 k := (hs.out 18 (by kernel_rfl)).trans (rfl)
              refine g_val (.int .i64 k) hS rfl ?_ rfl
              have hcn := BigFrame.eval_const a'; have hfn := BigFrame.eval_func a'; clear hs hdep; generalize a'.eval = ev at *; go_simp
            · go_light; intro listed a' w' hs hS hun hdep
              have e122 : a'.eval (.tmp 122) = .slice (some ⟨b2, off2, none⟩) l.length c2 := hs.eval 0 _ 122 rfl (hdep ⟨0, .data⟩ (by simp) rfl) rfl
              have e123 : a'.eval (.tmp 123) = .int .i64 k := hs.eval 1 _ 123 rfl (hdep ⟨1, .data⟩ (by simp) rfl) rfl
              refine g_val (.pointer (some ⟨b2, off2 + k * 31, none⟩)) hS rfl ?_ rfl
              have hcn := BigFrame.eval_const a'; have hfn := BigFrame.eval_func a'; clear hs hdep; generalize a'.eval = ev at *; go_simp
            · go_light; intro listed a' w' hs hS hun hdep
              have e124 : a'.eval (.tmp 124) = .pointer (some ⟨b2, off2 + k * 31, none⟩) := hs.eval 2 _ 124 rfl (hdep ⟨2, .data⟩ (by simp) rfl) rfl
              exact g_val (.agg (L.lv x.1 x.2)) hS rfl (run_op_load_mid rfl e124 (HR2.out w' hS)) rfl
            · go_light; intro listed a' w' hs hS hun hdep
              have e0 : a'.eval (.tmp 0) = .slice (some ⟨b1, off1, none⟩) l.length cap := (hs.out 0 (by kernel_rfl)).trans (rfl)
              refine g_val (.slice (some ⟨b1, off1, none⟩) l.length cap) hS rfl ?_ rfl
              have hcn := BigFrame.eval_const a'; have hfn := BigFrame.eval_func a'; clear hs hdep; generalize a'.eval = ev at *; go_simp
            · go_light; intro listed a' w' hs hS hun hdep
              have e18 : a'.eval (.tmp 18) = .int .i64 k := (hs.out 18 (by kernel_rfl)).trans (rfl)
              refine g_val (.int .i64 k) hS rfl ?_ rfl
              have hcn := BigFrame.eval_const a'; have hfn := BigFrame.eval_func a'; clear hs hdep; generalize a'.eval = ev at *; go_simp
            · go_light; intro listed a' w' hs hS hun hdep
              have e126 : a'.eval (.tmp 126) = .slice (some ⟨b1, off1, none⟩) l.length cap := hs.eval 4 _ 126 rfl (hdep ⟨4, .data⟩ (by simp) rfl) rfl
              have e127 : a'.eval (.tmp 127) = .int .i64 k := hs.eval 5 _ 127 rfl (hdep ⟨5, .data⟩ (by simp) rfl) rfl
              refine g_val (.pointer (some ⟨b1, off1 + k * 31, none⟩)) hS rfl ?_ rfl
              have hcn := BigFrame.eval_const a'; have hfn := BigFrame.eval_func a'; clear hs hdep; generalize a'.eval = ev at *; go_simp
            · go_light; intro listed a' w' hs hS hun hdep
              have e128 : a'.eval (.tmp 128) = .pointer (some ⟨b1, off1 + k * 31, none⟩) := hs.eval 6 _ 128 rfl (hdep ⟨6, .data⟩ (by simp) rfl) rfl
              exact g_val (.agg (L.lv x.1 x.2)) hS rfl (run_op_load_mid rfl e128 (HR1.out w' hS)) rfl
            · go_light; intro listed a' w' hs hS hun hdep
              have e125 : a'.eval (.tmp 125) = .agg (L.lv x.1 x.2) := hs.eval 3 _ 125 rfl (hdep ⟨3, .data⟩ (by simp) rfl) rfl
              have e129 : a'.eval (.tmp 129) = .agg (L.lv x.1 x.2) := hs.eval 7 _ 129 rfl (hdep ⟨7, .data⟩ (by simp) rfl) rfl
              exact g_val (.bool false) hS rfl ((run_op_neq_lab rfl e125 e129 hnx hnx).trans (by simp)) rfl
            · intro vs w8 hlen hV listed hall hS
              obtain ⟨v0, v1, v2, v3, v4, v5, v6, v7, v8, rfl⟩ := vs9 vs (hlen.trans rfl)
              have q0 : v0 = .slice (some ⟨b2, off2, none⟩) l.length c2 := hV 0 _ rfl
              have q1 : v1 = .int .i64 k := hV 1 _ rfl
              have q2 : v2 = .pointer (some ⟨b2, off2 + k * 31, none⟩) := hV 2 _ rfl
              have q3 : v3 = .agg (L.lv x.1 x.2) := hV 3 _ rfl
              have q4 : v4 = .slice (some ⟨b1, off1, none⟩) l.length cap := hV 4 _ rfl
              have q5 : v5 = .int .i64 k := hV 5 _ rfl
              have q6 : v6 = .pointer (some ⟨b1, off1 + k * 31, none⟩) := hV 6 _ rfl
              have q7 : v7 = .agg (L.lv x.1 x.2) := hV 7 _ rfl
              have q8 : v8 = .bool false := hV 8 _ rfl
              have hbel : Below wr.heap.size wr w8 := hS
              subst q0 q1 q2 q3 q4 q5 q6 q7 q8
              clear hV hS hall
              simp only [lays, Act.put, List.setIfInBounds_toArray, List.set_cons_zero, List.set_cons_succ]
              have hbn := hb.trans (hbel.mono hb.size)
              clear HR1 HR2 hbel
              go_wp2
              go_roundw
              case rel => exact ⟨k + 1, by omega, by go_num, hbn⟩
              case measure => simp [intOf]; omega
          · obtain rfl : k = l.length := by omega
            have hlt' : ¬ (l.length : Int) < (l.length : Int) := by omega
            go_wp2_with fail
            refine (tab_awake _).mono ?_
            rintro e w9 ⟨rfl, hb9⟩
            have hbf := (hbz.trans (hb.mono hbz.size)).trans (hb9.mono (hbz.trans (hb.mono hbz.size)).size)
            go_wp2
            go_ret
            exact ⟨rfl, hbf⟩
    · have h1' : (0 : Int) ≤ n := by omega
      have h2' : ¬ n < (l.length : Int) := by omega
      clear GQ HQi HY hn
      go_wp2
      refine region_gen (VG wq.heap.size [.val (.pointer (some ⟨g, 0, none⟩)), .val (.int .i64 (l.length : Nat)), .val (.slice a l.length cap), .val (.int .i64 (l.length : Nat)), .val (.bool false), .val (.bool false), .val (.slice a2 l.length c2), .val (.int .i64 (l.length : Nat)), .val (.slice a l.length cap), .val (.int .i64 (l.length : Nat)), .val (.bool false), .val (.bool false), .val (.bool false), .val (.bool false), .val (.int .i64 n), .val (.bool true), .val (.bool true), .val (.int .i64 n), .val (.slice a l.length cap), .val (.int .i64 (l.length : Nat)), .val (.bool false), .val (.bool false), .val (.bool false), .val (.bool false), .val (.bool false), .val (.bool false), .val (.bool false), .any, .any, .any, .any, .any, .any, .val (.bool false), .val (.bool false), .val (.bool false), .val (.bool (decide (0 ≤ f))), .val (.int .i64 f), .val (.bool (decide (0 ≤ f))), .val (.bool false), .val (.bool false), .val (.bool false), .val (.int .i64 (max f 0)), .val (.int .i64 f), .val (.int .i64 (max f 0)), .val (.bool false), .val (.bool false)]) (BS wq) (by kernel_rfl) (by kernel_rfl) (Below.refl _ _).drew ⟨?_, ?_, ?_, ?_, ?_, ?_, ?_, ?_, ?_, ?_, ?_, ?_, ?_, ?_, ?_, ?_, ?_, ?_, ?_, ?_, ?_, ?_, ?_, ?_, ?_, ?_, ?_, ?_, ?_, ?_, ?_, ?_, ?_, ?_, ?_, ?_, ?_, ?_, ?_, ?_, ?_, ?_, ?_, ?_, ?_, ?_, ?_, trivial⟩ ?_
      · go_light; intro listed a' w' hs hS hun hdep
        have e7 : a'.eval (.tmp 7) = .pointer (some ⟨g, 0, none⟩) := (hs.out 7 (by kernel_rfl)).trans (rfl)
        refine g_val (.pointer (some ⟨g, 0, none⟩)) hS rfl ?_ rfl
        have hcn := BigFrame.eval_const a'; have hfn := BigFrame.eval_func a'; clear hs hdep; generalize a'.eval = ev at *; go_simp
      · go_light; intro listed a' w' hs hS hun hdep
        have e69 : a'.eval (.tmp 69) = .pointer (some ⟨g, 0, none⟩) := hs.eval 0 _ 69 rfl (hdep ⟨0, .data⟩ (by simp) rfl) rfl
        refine g_call 26 #[.pointer (some ⟨g, 0, none⟩)] hS rfl ?_ ?_
        · have hcn := BigFrame.eval_const a'; have hfn := BigFrame.eval_func a'; clear hs hdep; generalize a'.eval = ev at *; go_simp
        · exact c_val ((HLen.out w' (HT.out.below hS)).mono fun e w'' ⟨he, hw⟩ => ⟨he, by rw [hw]; exact Below.refl _ _⟩) rfl
      · go_light; intro listed a' w' hs hS hun hdep
        have e0 : a'.eval (.tmp 0) = .slice a l.length cap := (hs.out 0 (by kernel_rfl)).trans (rfl)
        refine g_val (.slice a l.length cap) hS rfl ?_ rfl
        have hcn := BigFrame.eval_const a'; have hfn := BigFrame.eval_func a'; clear hs hdep; generalize a'.eval = ev at *; go_simp
      · go_light; intro listed a' w' hs hS hun hdep
        have e71 : a'.eval (.tmp 71) = .slice a l.length cap := hs.eval 2 _ 71 rfl (hdep ⟨2, .data⟩ (by simp) rfl) rfl
        refine g_val (.int .i64 (l.length : Nat)) hS rfl ?_ rfl
        have hcn := BigFrame.eval_const a'; have hfn := BigFrame.eval_func a'; clear hs hdep; generalize a'.eval = ev at *; go_simp
      · go_light; intro listed a' w' hs hS hun hdep
        have e70 : a'.eval (.tmp 70) = .int .i64 (l.length : Nat) := hs.eval 1 _ 70 rfl (hdep ⟨1, .data⟩ (by simp) rfl) rfl
        have e72 : a'.eval (.tmp 72) = .int .i64 (l.length : Nat) := hs.eval 3 _ 72 rfl (hdep ⟨3, .data⟩ (by simp) rfl) rfl
        refine g_val (.bool false) hS rfl ?_ rfl
        have hcn := BigFrame.eval_const a'; have hfn := BigFrame.eval_func a'; clear hs hdep; generalize a'.eval = ev at *; go_simp
      · go_light; intro listed a' w' hs hS hun hdep
        have e73 : a'.eval (.tmp 73) = .bool false := hs.eval 4 _ 73 rfl (hdep ⟨4, .data⟩ (by simp) rfl) rfl
        refine g_val (.bool false) hS rfl ?_ rfl
        have hcn := BigFrame.eval_const a'; have hfn := BigFrame.eval_func a'; clear hs hdep; generalize a'.eval = ev at *; go_simp
      · go_light; intro listed a' w' hs hS hun hdep
        have eg : a'.eval (.tmp 74) = .bool false := hs.eval 5 _ 74 rfl (hdep ⟨5, .guard⟩ (by simp) rfl) rfl
        have e17 : a'.eval (.tmp 17) = .slice a2 l.length c2 := (hs.out 17 (by kernel_rfl)).trans (rfl)
        refine g_val (.slice a2 l.length c2) hS (wanted_yes rfl rfl rfl eg) ?_ rfl
        have hcn := BigFrame.eval_const a'; have hfn := BigFrame.eval_func a'; clear hs hdep; generalize a'.eval = ev at *; go_simp
      · go_light; intro listed a' w' hs hS hun hdep
        have eg : a'.eval (.tmp 74) = .bool false := hs.eval 5 _ 74 rfl (hdep ⟨5, .guard⟩ (by simp) rfl) rfl
        have e75 : a'.eval (.tmp 75) = .slice a2 l.length c2 := hs.eval 6 _ 75 rfl (hdep ⟨6, .data⟩ (by simp) rfl) rfl
        refine g_val (.int .i64 (l.length : Nat)) hS (wanted_yes rfl rfl rfl eg) ?_ rfl
        have hcn := BigFrame.eval_const a'; have hfn := BigFrame.eval_func a'; clear hs hdep; generalize a'.eval = ev at *; go_simp
      · go_light; intro listed a' w' hs hS hun hdep
        have eg : a'.eval (.tmp 74) = .bool false := hs.eval 5 _ 74 rfl (hdep ⟨5, .guard⟩ (by simp) rfl) rfl
        have e0 : a'.eval (.tmp 0) = .slice a l.length cap := (hs.out 0 (by kernel_rfl)).trans (rfl)
        refine g_val (.slice a l.length cap) hS (wanted_yes rfl rfl rfl eg) ?_ rfl
        have hcn := BigFrame.eval_const a'; have hfn := BigFrame.eval_func a'; clear hs hdep; generalize a'.eval = ev at *; go_simp
      · go_light; intro listed a' w' hs hS hun hdep
        have eg : a'.eval (.tmp 74) = .bool false := hs.eval 5 _ 74 rfl (hdep ⟨5, .guard⟩ (by simp) rfl) rfl
        have e77 : a'.eval (.tmp 77) = .slice a l.length cap := hs.eval 8 _ 77 rfl (hdep ⟨8, .data⟩ (by simp) rfl) rfl
        refine g_val (.int .i64 (l.length : Nat)) hS (wanted_yes rfl rfl rfl eg) ?_ rfl
        have hcn := BigFrame.eval_const a'; have hfn := BigFrame.eval_func a'; clear hs hdep; generalize a'.eval = ev at *; go_simp
      · go_light; intro listed a' w' hs hS hun hdep
        have eg : a'.eval (.tmp 74) = .bool false := hs.eval 5 _ 74 rfl (hdep ⟨5, .guard⟩ (by simp) rfl) rfl
        have e76 : a'.eval (.tmp 76) = .int .i64 (l.length : Nat) := hs.eval 7 _ 76 rfl (hdep ⟨7, .data⟩ (by simp) rfl) rfl
        have e78 : a'.eval (.tmp 78) = .int .i64 (l.length : Nat) := hs.eval 9 _ 78 rfl (hdep ⟨9, .data⟩ (by simp) rfl) rfl
        refine g_val (.bool false) hS (wanted_yes rfl rfl rfl eg) ?_ rfl
        have hcn := BigFrame.eval_const a'; have hfn := BigFrame.eval_func a'; clear hs hdep; generalize a'.eval = ev at *; go_simp
      · go_light; intro listed a' w' hs hS hun hdep
        have e74 : a'.eval (.tmp 74) = .bool false := hs.eval 5 _ 74 rfl (hdep ⟨5, .data⟩ (by simp) rfl) rfl
        have e79 : a'.eval (.tmp 79) = .bool false := hs.eval 10 _ 79 rfl (hdep ⟨10, .data⟩ (by simp) rfl) rfl
        refine g_val (.bool false) hS rfl ?_ rfl
        have hcn := BigFrame.eval_const a'; have hfn := BigFrame.eval_func a'; clear hs hdep; generalize a'.eval = ev at *; go_simp
      · go_light; intro listed a' w' hs hS hun hdep
        have e80 : a'.eval (.tmp 80) = .bool false := hs.eval 11 _ 80 rfl (hdep ⟨11, .data⟩ (by simp) rfl) rfl
        refine g_val (.bool false) hS rfl ?_ rfl
        have hcn := BigFrame.eval_const a'; have hfn := BigFrame.eval_func a'; clear hs hdep; generalize a'.eval = ev at *; go_simp
      · go_light; intro listed a' w' hs hS hun hdep
        have eg : a'.eval (.tmp 81) = .bool false := hs.eval 12 _ 81 rfl (hdep ⟨12, .guard⟩ (by simp) rfl) rfl
        have e13 : a'.eval (.tmp 13) = .bool false := (hs.out 13 (by kernel_rfl)).trans (rfl)
        refine g_val (.bool false) hS (wanted_yes rfl rfl rfl eg) ?_ rfl
        have hcn := BigFrame.eval_const a'; have hfn := BigFrame.eval_func a'; clear hs hdep; generalize a'.eval = ev at *; go_simp
      · go_light; intro listed a' w' hs hS hun hdep
        have eg : a'.eval (.tmp 81) = .bool false := hs.eval 12 _ 81 rfl (hdep ⟨12, .guard⟩ (by simp) rfl) rfl
        have e1 : a'.eval (.tmp 1) = .int .i64 n := (hs.out 1 (by kernel_rfl)).trans (rfl)
        refine g_val (.int .i64 n) hS (wanted_yes rfl rfl rfl eg) ?_ rfl
        have hcn := BigFrame.eval_const a'; have hfn := BigFrame.eval_func a'; clear hs hdep; generalize a'.eval = ev at *; go_simp
      · go_light; intro listed a' w' hs hS hun hdep
        have eg : a'.eval (.tmp 81) = .bool false := hs.eval 12 _ 81 rfl (hdep ⟨12, .guard⟩ (by simp) rfl) rfl
        have e83 : a'.eval (.tmp 83) = .int .i64 n := hs.eval 14 _ 83 rfl (hdep ⟨14, .data⟩ (by simp) rfl) rfl
        refine g_val (.bool true) hS (wanted_yes rfl rfl rfl eg) ?_ rfl
        have hcn := BigFrame.eval_const a'; have hfn := BigFrame.eval_func a'; clear hs hdep; generalize a'.eval = ev at *; go_simp
      · go_light; intro listed a' w' hs hS hun hdep
        have eg : a'.eval (.tmp 81) = .bool false := hs.eval 12 _ 81 rfl (hdep ⟨12, .guard⟩ (by simp) rfl) rfl
        have e84 : a'.eval (.tmp 84) = .bool true := hs.eval 15 _ 84 rfl (hdep ⟨15, .data⟩ (by simp) rfl) rfl
        refine g_val (.bool true) hS (wanted_yes rfl rfl rfl eg) ?_ rfl
        have hcn := BigFrame.eval_const a'; have hfn := BigFrame.eval_func a'; clear hs hdep; generalize a'.eval = ev at *; go_simp
      · go_light; intro listed a' w' hs hS hun hdep
        have eg : a'.eval (.tmp 85) = .bool true := hs.eval 16 _ 85 rfl (hdep ⟨16, .guard⟩ (by simp) rfl) rfl
        have e1 : a'.eval (.tmp 1) = .int .i64 n := (hs.out 1 (by kernel_rfl)).trans (rfl)
        refine g_val (.int .i64 n) hS (wanted_yes rfl rfl rfl eg) ?_ rfl
        have hcn := BigFrame.eval_const a'; have hfn := BigFrame.eval_func a'; clear hs hdep; generalize a'.eval = ev at *; go_simp
      · go_light; intro listed a' w' hs hS hun hdep
        have eg : a'.eval (.tmp 85) = .bool true := hs.eval 16 _ 85 rfl (hdep ⟨16, .guard⟩ (by simp) rfl) rfl
        have e0 : a'.eval (.tmp 0) = .slice a l.length cap := (hs.out 0 (by kernel_rfl)).trans (rfl)
        refine g_val (.slice a l.length cap) hS (wanted_yes rfl rfl rfl eg) ?_ rfl
        have hcn := BigFrame.eval_const a'; have hfn := BigFrame.eval_func a'; clear hs hdep; generalize a'.eval = ev at *; go_simp
      · go_light; intro listed a' w' hs hS hun hdep
        have eg : a'.eval (.tmp 85) = .bool true := hs.eval 16 _ 85 rfl (hdep ⟨16, .guard⟩ (by simp) rfl) rfl
        have e87 : a'.eval (.tmp 87) = .slice a l.length cap := hs.eval 18 _ 87 rfl (hdep ⟨18, .data⟩ (by simp) rfl) rfl
        refine g_val (.int .i64 (l.length : Nat)) hS (wanted_yes rfl rfl rfl eg) ?_ rfl
        have hcn := BigFrame.eval_const a'; have hfn := BigFrame.eval_func a'; clear hs hdep; generalize a'.eval = ev at *; go_simp
      · go_light; intro listed a' w' hs hS hun hdep
        have eg : a'.eval (.tmp 85) = .bool true := hs.eval 16 _ 85 rfl (hdep ⟨16, .guard⟩ (by simp) rfl) rfl
        have e86 : a'.eval (.tmp 86) = .int .i64 n := hs.eval 17 _ 86 rfl (hdep ⟨17, .data⟩ (by simp) rfl) rfl
        have e88 : a'.eval (.tmp 88) = .int .i64 (l.length : Nat) := hs.eval 19 _ 88 rfl (hdep ⟨19, .data⟩ (by simp) rfl) rfl
        refine g_val (.bool false) hS (wanted_yes rfl rfl rfl eg) ?_ rfl
        have hcn := BigFrame.eval_const a'; have hfn := BigFrame.eval_func a'; clear hs hdep; generalize a'.eval = ev at *; go_simp
      · go_light; intro listed a' w' hs hS hun hdep
        have eg : a'.eval (.tmp 81) = .bool false := hs.eval 12 _ 81 rfl (hdep ⟨12, .guard⟩ (by simp) rfl) rfl
        have e85 : a'.eval (.tmp 85) = .bool true := hs.eval 16 _ 85 rfl (hdep ⟨16, .data⟩ (by simp) rfl) rfl
        have e89 : a'.eval (.tmp 89) = .bool false := hs.eval 20 _ 89 rfl (hdep ⟨20, .data⟩ (by simp) rfl) rfl
        refine g_val (.bool false) hS (wanted_yes rfl rfl rfl eg) ?_ rfl
        have hcn := BigFrame.eval_const a'; have hfn := BigFrame.eval_func a'; clear hs hdep; generalize a'.eval = ev at *; go_simp
      · go_light; intro listed a' w' hs hS hun hdep
        have eg : a'.eval (.tmp 81) = .bool false := hs.eval 12 _ 81 rfl (hdep ⟨12, .guard⟩ (by simp) rfl) rfl
        have e82 : a'.eval (.tmp 82) = .bool false := hs.eval 13 _ 82 rfl (hdep ⟨13, .data⟩ (by simp) rfl) rfl
        have e90 : a'.eval (.tmp 90) = .bool false := hs.eval 21 _ 90 rfl (hdep ⟨21, .data⟩ (by simp) rfl) rfl
        refine g_val (.bool false) hS (wanted_yes rfl rfl rfl eg) ?_ rfl
        have hcn := BigFrame.eval_const a'; have hfn := BigFrame.eval_func a'; clear hs hdep; generalize a'.eval = ev at *; go_simp
      · go_light; intro listed a' w' hs hS hun hdep
        have e81 : a'.eval (.tmp 81) = .bool false := hs.eval 12 _ 81 rfl (hdep ⟨12, .data⟩ (by simp) rfl) rfl
        have e91 : a'.eval (.tmp 91) = .bool false := hs.eval 22 _ 91 rfl (hdep ⟨22, .data⟩ (by simp) rfl) rfl
        refine g_val (.bool false) hS rfl ?_ rfl
        have hcn := BigFrame.eval_const a'; have hfn := BigFrame.eval_func a'; clear hs hdep; generalize a'.eval = ev at *; go_simp
      · go_light; intro listed a' w' hs hS hun hdep
        have e92 : a'.eval (.tmp 92) = .bool false := hs.eval 23 _ 92 rfl (hdep ⟨23, .data⟩ (by simp) rfl) rfl
        refine g_val (.bool false) hS rfl ?_ rfl
        have hcn := BigFrame.eval_const a'; have hfn := BigFrame.eval_func a'; clear hs hdep; generalize a'.eval = ev at *; go_simp
      · go_light; intro listed a' w' hs hS hun hdep
        have eg : a'.eval (.tmp 93) = .bool false := hs.eval 24 _ 93 rfl (hdep ⟨24, .guard⟩ (by simp) rfl) rfl
        have e13 : a'.eval (.tmp 13) = .bool false := (hs.out 13 (by kernel_rfl)).trans (rfl)
        refine g_val (.bool false) hS (wanted_yes rfl rfl rfl eg) ?_ rfl
        have hcn := BigFrame.eval_const a'; have hfn := BigFrame.eval_func a'; clear hs hdep; generalize a'.eval = ev at *; go_simp
      · go_light; intro listed a' w' hs hS hun hdep
        have eg : a'.eval (.tmp 93) = .bool false := hs.eval 24 _ 93 rfl (hdep ⟨24, .guard⟩ (by simp) rfl) rfl
        have e94 : a'.eval (.tmp 94) = .bool false := hs.eval 25 _ 94 rfl (hdep ⟨25, .data⟩ (by simp) rfl) rfl
        refine g_val (.bool false) hS (wanted_yes rfl rfl rfl eg) ?_ rfl
        have hcn := BigFrame.eval_const a'; have hfn := BigFrame.eval_func a'; clear hs hdep; generalize a'.eval = ev at *; go_simp
      · go_light; intro listed a' w' hs hS hun hdep
        have eg : a'.eval (.tmp 95) = .bool false := hs.eval 26 _ 95 rfl (hdep ⟨26, .guard⟩ (by simp) rfl) rfl
        exact g_not hS (wanted_no rfl rfl rfl eg (by decide)) trivial
      · go_light; intro listed a' w' hs hS hun hdep
        have eg : a'.eval (.tmp 95) = .bool false := hs.eval 26 _ 95 rfl (hdep ⟨26, .guard⟩ (by simp) rfl) rfl
        exact g_not hS (wanted_no rfl rfl rfl eg (by decide)) trivial
      · go_light; intro listed a' w' hs hS hun hdep
        have eg : a'.eval (.tmp 95) = .bool false := hs.eval 26 _ 95 rfl (hdep ⟨26, .guard⟩ (by simp) rfl) rfl
        exact g_not hS (wanted_no rfl rfl rfl eg (by decide)) trivial
      · go_light; intro listed a' w' hs hS hun hdep
        have eg : a'.eval (.tmp 95) = .bool false := hs.eval 26 _ 95 rfl (hdep ⟨26, .guard⟩ (by simp) rfl) rfl
        exact g_not hS (wanted_no rfl rfl rfl eg (by decide)) trivial
      · go_light; intro listed a' w' hs hS hun hdep
        have eg : a'.eval (.tmp 95) = .bool false := hs.eval 26 _ 95 rfl (hdep ⟨26, .guard⟩ (by simp) rfl) rfl
        exact g_not hS (wanted_no rfl rfl rfl eg (by decide)) trivial
      · go_light; intro listed a' w' hs hS hun hdep
        have eg : a'.eval (.tmp 95) = .bool false := hs.eval 26 _ 95 rfl (hdep ⟨26, .guard⟩ (by simp) rfl) rfl
        exact g_not hS (wanted_no rfl rfl rfl eg (by decide)) trivial
      · go_light; intro listed a' w' hs hS hun hdep
        have eg : a'.eval (.tmp 93) = .bool false := hs.eval 24 _ 93 rfl (hdep ⟨24, .guard⟩ (by simp) rfl) rfl
        have e95 : a'.eval (.tmp 95) = .bool false := hs.eval 26 _ 95 rfl (hdep ⟨26, .data⟩ (by simp) rfl) rfl
        refine g_val (.bool false) hS (wanted_yes rfl rfl rfl eg) ?_ rfl
        have hcn := BigFrame.eval_const a'; have hfn := BigFrame.eval_func a'; clear hs hdep; generalize a'.eval = ev at *; go_simp
      · go_light; intro listed a' w' hs hS hun hdep
        have e93 : a'.eval (.tmp 93) = .bool false := hs.eval 24 _ 93 rfl (hdep ⟨24, .data⟩ (by simp) rfl) rfl
        have e102 : a'.eval (.tmp 102) = .bool false := hs.eval 33 _ 102 rfl (hdep ⟨33, .data⟩ (by simp) rfl) rfl
        refine g_val (.bool false) hS rfl ?_ rfl
        have hcn := BigFrame.eval_const a'; have hfn := BigFrame.eval_func a'; clear hs hdep; generalize a'.eval = ev at *; go_simp
      · go_light; intro listed a' w' hs hS hun hdep
        have e103 : a'.eval (.tmp 103) = .bool false := hs.eval 34 _ 103 rfl (hdep ⟨34, .data⟩ (by simp) rfl) rfl
        refine g_val (.bool false) hS rfl ?_ rfl
        have hcn := BigFrame.eval_const a'; have hfn := BigFrame.eval_func a'; clear hs hdep; generalize a'.eval = ev at *; go_simp
      · go_light; intro listed a' w' hs hS hun hdep
        have eg : a'.eval (.tmp 104) = .bool false := hs.eval 35 _ 104 rfl (hdep ⟨35, .guard⟩ (by simp) rfl) rfl
        have e15 : a'.eval (.tmp 15) = .bool (decide (0 ≤ f)) := (hs.out 15 (by kernel_rfl)).trans (rfl)
        refine g_val (.bool (decide (0 ≤ f))) hS (wanted_yes rfl rfl rfl eg) ?_ rfl
        have hcn := BigFrame.eval_const a'; have hfn := BigFrame.eval_func a'; clear hs hdep; generalize a'.eval = ev at *; go_simp
      · go_light; intro listed a' w' hs hS hun hdep
        have eg : a'.eval (.tmp 104) = .bool false := hs.eval 35 _ 104 rfl (hdep ⟨35, .guard⟩ (by simp) rfl) rfl
        have e16 : a'.eval (.tmp 16) = .int .i64 f := (hs.out 16 (by kernel_rfl)).trans (rfl)
        refine g_val (.int .i64 f) hS (wanted_yes rfl rfl rfl eg) ?_ rfl
        have hcn := BigFrame.eval_const a'; have hfn := BigFrame.eval_func a'; clear hs hdep; generalize a'.eval = ev at *; go_simp
      · go_light; intro listed a' w' hs hS hun hdep
        have eg : a'.eval (.tmp 104) = .bool false := hs.eval 35 _ 104 rfl (hdep ⟨35, .guard⟩ (by simp) rfl) rfl
        have e106 : a'.eval (.tmp 106) = .int .i64 f := hs.eval 37 _ 106 rfl (hdep ⟨37, .data⟩ (by simp) rfl) rfl
        refine g_val (.bool (decide (0 ≤ f))) hS (wanted_yes rfl rfl rfl eg) ?_ rfl
        have hcn := BigFrame.eval_const a'; have hfn := BigFrame.eval_func a'; clear hs hdep; generalize a'.eval = ev at *; go_simp
      · go_light; intro listed a' w' hs hS hun hdep
        have eg : a'.eval (.tmp 104) = .bool false := hs.eval 35 _ 104 rfl (hdep ⟨35, .guard⟩ (by simp) rfl) rfl
        have e105 : a'.eval (.tmp 105) = .bool (decide (0 ≤ f)) := hs.eval 36 _ 105 rfl (hdep ⟨36, .data⟩ (by simp) rfl) rfl
        have e107 : a'.eval (.tmp 107) = .bool (decide (0 ≤ f)) := hs.eval 38 _ 107 rfl (hdep ⟨38, .data⟩ (by simp) rfl) rfl
        refine g_val (.bool false) hS (wanted_yes rfl rfl rfl eg) ?_ rfl
        have hcn := BigFrame.eval_const a'; have hfn := BigFrame.eval_func a'; clear hs hdep; generalize a'.eval = ev at *; go_simp
      · go_light; intro listed a' w' hs hS hun hdep
        have e104 : a'.eval (.tmp 104) = .bool false := hs.eval 35 _ 104 rfl (hdep ⟨35, .data⟩ (by simp) rfl) rfl
        have e108 : a'.eval (.tmp 108) = .bool false := hs.eval 39 _ 108 rfl (hdep ⟨39, .data⟩ (by simp) rfl) rfl
        refine g_val (.bool false) hS rfl ?_ rfl
        have hcn := BigFrame.eval_const a'; have hfn := BigFrame.eval_func a'; clear hs hdep; generalize a'.eval = ev at *; go_simp
      · go_light; intro listed a' w' hs hS hun hdep
        have e109 : a'.eval (.tmp 109) = .bool false := hs.eval 40 _ 109 rfl (hdep ⟨40, .data⟩ (by simp) rfl) rfl
        refine g_val (.bool false) hS rfl ?_ rfl
        have hcn := BigFrame.eval_const a'; have hfn := BigFrame.eval_func a'; clear hs hdep; generalize a'.eval = ev at *; go_simp
      · go_light; intro listed a' w' hs hS hun hdep
        have eg : a'.eval (.tmp 110) = .bool false := hs.eval 41 _ 110 rfl (hdep ⟨41, .guard⟩ (by simp) rfl) rfl
        have e14 : a'.eval (.tmp 14) = .int .i64 (max f 0) := (hs.out 14 (by kernel_rfl)).trans (rfl)
        refine g_val (.int .i64 (max f 0)) hS (wanted_yes rfl rfl rfl eg) ?_ rfl
        have hcn := BigFrame.eval_const a'; have hfn := BigFrame.eval_func a'; clear hs hdep; generalize a'.eval = ev at *; go_simp
      · go_light; intro listed a' w' hs hS hun hdep
        have eg : a'.eval (.tmp 110) = .bool false := hs.eval 41 _ 110 rfl (hdep ⟨41, .guard⟩ (by simp) rfl) rfl
        have e16 : a'.eval (.tmp 16) = .int .i64 f := (hs.out 16 (by kernel_rfl)).trans (rfl)
        refine g_val (.int .i64 f) hS (wanted_yes rfl rfl rfl eg) ?_ rfl
        have hcn := BigFrame.eval_const a'; have hfn := BigFrame.eval_func a'; clear hs hdep; generalize a'.eval = ev at *; go_simp
      · go_light; intro listed a' w' hs hS hun hdep
        have eg : a'.eval (.tmp 110) = .bool false := hs.eval 41 _ 110 rfl (hdep ⟨41, .guard⟩ (by simp) rfl) rfl
        have e112 : a'.eval (.tmp 112) = .int .i64 f := hs.eval 43 _ 112 rfl (hdep ⟨43, .data⟩ (by simp) rfl) rfl
        refine g_val (.int .i64 (max f 0)) hS (wanted_yes rfl rfl rfl eg) ?_ rfl
        have hmx := HMx.out
        have hcn := BigFrame.eval_const a'; have hfn := BigFrame.eval_func a'; clear hs hdep; generalize a'.eval = ev at *
        clear hbw5
        by_cases hf0 : f < 0 <;> go_simp <;> omega
      · go_light; intro listed a' w' hs hS hun hdep
        have eg : a'.eval (.tmp 110) = .bool false := hs.eval 41 _ 110 rfl (hdep ⟨41, .guard⟩ (by simp) rfl) rfl
        have e111 : a'.eval (.tmp 111) = .int .i64 (max f 0) := hs.eval 42 _ 111 rfl (hdep ⟨42, .data⟩ (by simp) rfl) rfl
        have e113 : a'.eval (.tmp 113) = .int .i64 (max f 0) := hs.eval 44 _ 113 rfl (hdep ⟨44, .data⟩ (by simp) rfl) rfl
        refine g_val (.bool false) hS (wanted_yes rfl rfl rfl eg) ?_ rfl
        have hcn := BigFrame.eval_const a'; have hfn := BigFrame.eval_func a'; clear hs hdep; generalize a'.eval = ev at *; go_simp
      · go_light; intro listed a' w' hs hS hun hdep
        have e110 : a'.eval (.tmp 110) = .bool false := hs.eval 41 _ 110 rfl (hdep ⟨41, .data⟩ (by simp) rfl) rfl
        have e114 : a'.eval (.tmp 114) = .bool false := hs.eval 45 _ 114 rfl (hdep ⟨45, .data⟩ (by simp) rfl) rfl
        refine g_val (.bool false) hS rfl ?_ rfl
        have hcn := BigFrame.eval_const a'; have hfn := BigFrame.eval_func a'; clear hs hdep; generalize a'.eval = ev at *; go_simp
      · intro vs w6 hlen hV listed hall hS
        obtain ⟨v0, v1, v2, v3, v4, v5, v6, v7, v8, v9, v10, v11, v12, v13, v14, v15, v16, v17, v18, v19, v20, v21, v22, v23, v24, v25, v26, v27, v28, v29, v30, v31, v32, v33, v34, v35, v36, v37, v38, v39, v40, v41, v42, v43, v44, v45, v46, rfl⟩ := vs47 vs (hlen.trans rfl)
        have q0 : v0 = .pointer (some ⟨g, 0, none⟩) := hV 0 _ rfl
        have q1 : v1 = .int .i64 (l.length : Nat) := hV 1 _ rfl
        have q2 : v2 = .slice a l.length cap := hV 2 _ rfl
        have q3 : v3 = .int .i64 (l.length : Nat) := hV 3 _ rfl
        have q4 : v4 = .bool false := hV 4 _ rfl
        have q5 : v5 = .bool false := hV 5 _ rfl
        have q6 : v6 = .slice a2 l.length c2 := hV 6 _ rfl
        have q7 : v7 = .int .i64 (l.length : Nat) := hV 7 _ rfl
        have q8 : v8 = .slice a l.length cap := hV 8 _ rfl
        have q9 : v9 = .int .i64 (l.length : Nat) := hV 9 _ rfl
        have q10 : v10 = .bool false := hV 10 _ rfl
        have q11 : v11 = .bool false := hV 11 _ rfl
        have q12 : v12 = .bool false := hV 12 _ rfl
        have q13 : v13 = .bool false := hV 13 _ rfl
        have q14 : v14 = .int .i64 n := hV 14 _ rfl
        have q15 : v15 = .bool true := hV 15 _ rfl
        have q16 : v16 = .bool true := hV 16 _ rfl
        have q17 : v17 = .int .i64 n := hV 17 _ rfl
        have q18 : v18 = .slice a l.length cap := hV 18 _ rfl
        have q19 : v19 = .int .i64 (l.length : Nat) := hV 19 _ rfl
        have q20 : v20 = .bool false := hV 20 _ rfl
        have q21 : v21 = .bool false := hV 21 _ rfl
        have q22 : v22 = .bool false := hV 22 _ rfl
        have q23 : v23 = .bool false := hV 23 _ rfl
        have q24 : v24 = .bool false := hV 24 _ rfl
        have q25 : v25 = .bool false := hV 25 _ rfl
        have q26 : v26 = .bool false := hV 26 _ rfl
        have q33 : v33 = .bool false := hV 33 _ rfl
        have q34 : v34 = .bool false := hV 34 _ rfl
        have q35 : v35 = .bool false := hV 35 _ rfl
        have q36 : v36 = .bool (decide (0 ≤ f)) := hV 36 _ rfl
        have q37 : v37 = .int .i64 f := hV 37 _ rfl
        have q38 : v38 = .bool (decide (0 ≤ f)) := hV 38 _ rfl
        have q39 : v39 = .bool false := hV 39 _ rfl
        have q40 : v40 = .bool false := hV 40 _ rfl
        have q41 : v41 = .bool false := hV 41 _ rfl
        have q42 : v42 = .int .i64 (max f 0) := hV 42 _ rfl
        have q43 : v43 = .int .i64 f := hV 43 _ rfl
        have q44 : v44 = .int .i64 (max f 0) := hV 44 _ rfl
        have q45 : v45 = .bool false := hV 45 _ rfl
        have q46 : v46 = .bool false := hV 46 _ rfl
        have hbel : Below wq.heap.size wq w6 := hS
        subst q0 q1 q2 q3 q4 q5 q6 q7 q8 q9 q10 q11 q12 q13 q14 q15 q16 q17 q18 q19 q20 q21 q22 q23 q24 q25 q26 q33 q34 q35 q36 q37 q38 q39 q40 q41 q42 q43 q44 q45 q46
        clear hV hS hall
        simp only [lays, Act.put, List.setIfInBounds_toArray, List.set_cons_zero, List.set_cons_succ]
        have hbz := hbw5.trans (hbel.mono hbw5.size)
        have HAll := Lib.hid (HAl.out.below hbel)
        have HRow := Lib.hid (HR5.out.below hbel)
        clear hbel HT HA HAl HR5 HLen HMx
        go_wp2
        go_loopw [18] (fun i wr => ∃ k : Nat, k ≤ l.length ∧ i = .int .i64 k ∧ Below w6.heap.size w6 wr) (fun i _ => l.length - (intOf i).toNat)
        case atStart => exact ⟨0, Nat.zero_le _, rfl, Below.refl _ _⟩
        case round =>
          obtain ⟨k, hk, rfl, hb⟩ := hrel
          by_cases hlt : k < l.length
          · obtain ⟨b1, off1, rfl, _, hr1⟩ := labs_row (HRow.out.below hb) k hlt
            obtain ⟨b2, off2, rfl, _, hr2⟩ := labs_row (HAll.out.below hb) k hlt
            have HR1 := Lib.hid (fun w' (hS : Below wr.heap.size wr w') => hr1 k hlt w' hS)
            have HR2 := Lib.hid (fun w' (hS : Below wr.heap.size wr w') => hr2 k hlt w' hS)
            have hnx : (lab l k).2 < 2 ^ 240 := (Hok.out _ (lab_mem l k hlt)).2
            have hlt' : (k : Int) < (l.length : Int) := by omega
            clear hr1 hr2
            generalize lab l k = x at *
            go_wp2
            refine region_gen (VG wr.heap.size [.val (.slice (some ⟨b2, off2, none⟩) l.length c2), .val (.int .i64 k), .val (.pointer (some ⟨b2, off2 + k * 31, none⟩)), .val (.agg (L.lv x.1 x.2)), .val (.slice (some ⟨b1, off1, none⟩) l.length cap), .val (.int .i64 k), .val (.pointer (some ⟨b1, off1 + k * 31, none⟩)), .val (.agg (L.lv x.1 x.2)), .val (.bool false)]) (BS wr) (by kernel_rfl) (by kernel_rfl) (Below.refl _ _).drew ⟨?_, ?_, ?_, ?_, ?_, ?_, ?_, ?_, ?_, trivial⟩ ?_
            · go_light; intro listed a' w' hs hS hun hdep
              have e17 : a'.eval (.tmp 17) = .slice (some ⟨b2, off2, none⟩) l.length c2 := (hs.out 17 (by kernel_rfl)).trans (rfl)
              refine g_val (.slice (some ⟨b2, off2, none⟩) l.length c2) hS rfl ?_ rfl
              have hcn := BigFrame.eval_const a'; have hfn := BigFrame.eval_func a'; clear hs hdep; generalize a'.eval = ev at *; go_simp
            · go_light; intro listed a' w' hs hS hun hdep
              have e18 : a'.eval (.tmp 18) = .int .i64 k := (hs.out 18 (by kernel_rfl)).trans (rfl)
              refine g_val (.int .i64 k) hS rfl ?_ rfl
              have hcn := BigFrame.eval_const a'; have hfn := BigFrame.eval_func a'; clear hs hdep; generalize a'.eval = ev at *; go_simp
            · go_light; intro listed a' w' hs hS hun hdep
              have e122 : a'.eval (.tmp 122) = .slice (some ⟨b2, off2, none⟩) l.length c2 := hs.eval 0 _ 122 rfl (hdep ⟨0, .data⟩ (by simp) rfl) rfl
              have e123 : a'.eval (.tmp 123) = .int .i64 k := hs.eval 1 _ 123 rfl (hdep ⟨1, .data⟩ (by simp) rfl) rfl
              refine g_val (.pointer (some ⟨b2, off2 + k * 31, none⟩)) hS rfl ?_ rfl
              have hcn := BigFrame.eval_const a'; have hfn := BigFrame.eval_func a'; clear hs hdep; generalize a'.eval = ev at *; go_simp
            · go_light; intro listed a' w' hs hS hun hdep
              have e124 : a'.eval (.tmp 124) = .pointer (some ⟨b2, off2 + k * 31, none⟩) := hs.eval 2 _ 124 rfl (hdep ⟨2, .data⟩ (by simp) rfl) rfl
              exact g_val (.agg (L.lv x.1 x.2)) hS rfl (run_op_load_mid rfl e124 (HR2.out w' hS)) rfl
            · go_light; intro listed a' w' hs hS hun hdep
              have e0 : a'.eval (.tmp 0) = .slice (some ⟨b1, off1, none⟩) l.length cap := (hs.out 0 (by kernel_rfl)).trans (rfl)
              refine g_val (.slice (some ⟨b1, off1, none⟩) l.length cap) hS rfl ?_ rfl
              have hcn := BigFrame.eval_const a'; have hfn := BigFrame.eval_func a'; clear hs hdep; generalize a'.eval = ev at *; go_simp
            · go_light; intro listed a' w' hs hS hun hdep
              have e18 : a'.eval (.tmp 18) = .int .i64 k := (hs.out 18 (by kernel_rfl)).trans (rfl)
              refine g_val (.int .i64 k) hS rfl ?_ rfl
              have hcn := BigFrame.eval_const a'; have hfn := BigFrame.eval_func a'; clear hs hdep; generalize a'.eval = ev at *; go_simp
            · go_light; intro listed a' w' hs hS hun hdep
              have e126 : a'.eval (.tmp 126) = .slice (some ⟨b1, off1, none⟩) l.length cap := hs.eval 4 _ 126 rfl (hdep ⟨4, .data⟩ (by simp) rfl) rfl
              have e127 : a'.eval (.tmp 127) = .int .i64 k := hs.eval 5 _ 127 rfl (hdep ⟨5, .data⟩ (by simp) rfl) rfl
              refine g_val (.pointer (some ⟨b1, off1 + k * 31, none⟩)) hS rfl ?_ rfl
              have hcn := BigFrame.eval_const a'; have hfn := BigFrame.eval_func a'; clear hs hdep; generalize a'.eval = ev at *; go_simp
            · go_light; intro listed a' w' hs hS hun hdep
              have e128 : a'.eval (.tmp 128) = .pointer (some ⟨b1, off1 + k * 31, none⟩) := hs.eval 6 _ 128 rfl (hdep ⟨6, .data⟩ (by simp) rfl) rfl
              exact g_val (.agg (L.lv x.1 x.2)) hS rfl (run_op_load_mid rfl e128 (HR1.out w' hS)) rfl
            · go_light; intro listed a' w' hs hS hun hdep
              have e125 : a'.eval (.tmp 125) = .agg (L.lv x.1 x.2) := hs.eval 3 _ 125 rfl (hdep ⟨3, .data⟩ (by simp) rfl) rfl
              have e129 : a'.eval (.tmp 129) = .agg (L.lv x.1 x.2) := hs.eval 7 _ 129 rfl (hdep ⟨7, .data⟩ (by simp) rfl) rfl
              exact g_val (.bool false) hS rfl ((run_op_neq_lab rfl e125 e129 hnx hnx).trans (by simp)) rfl
            · intro vs w8 hlen hV listed hall hS
              obtain ⟨v0, v1, v2, v3, v4, v5, v6, v7, v8, rfl⟩ := vs9 vs (hlen.trans rfl)
              have q0 : v0 = .slice (some ⟨b2, off2, none⟩) l.length c2 := hV 0 _ rfl
              have q1 : v1 = .int .i64 k := hV 1 _ rfl
              have q2 : v2 = .pointer (some ⟨b2, off2 + k * 31, none⟩) := hV 2 _ rfl
              have q3 : v3 = .agg (L.lv x.1 x.2) := hV 3 _ rfl
              have q4 : v4 = .slice (some ⟨b1, off1, none⟩) l.length cap := hV 4 _ rfl
              have q5 : v5 = .int .i64 k := hV 5 _ rfl
              have q6 : v6 = .pointer (some ⟨b1, off1 + k * 31, none⟩) := hV 6 _ rfl
              have q7 : v7 = .agg (L.lv x.1 x.2) := hV 7 _ rfl
              have q8 : v8 = .bool false := hV 8 _ rfl
              have hbel : Below wr.heap.size wr w8 := hS
              subst q0 q1 q2 q3 q4 q5 q6 q7 q8
              clear hV hS hall
              simp only [lays, Act.put, List.setIfInBounds_toArray, List.set_cons_zero, List.set_cons_succ]
              have hbn := hb.trans (hbel.mono hb.size)
              clear HR1 HR2 hbel
              go_wp2
              go_roundw
              case rel => exact ⟨k + 1, by omega, by go_num, hbn⟩
              case measure => simp [intOf]; omega
          · obtain rfl : k = l.length := by omega
            have hlt' : ¬ (l.length : Int) < (l.length : Int) := by omega
            go_wp2_with fail
            refine (tab_awake _).mono ?_
            rintro e w9 ⟨rfl, hb9⟩
            have hbf := (hbz.trans (hb.mono hbz.size)).trans (hb9.mono (hbz.trans (hb.mono hbz.size)).size)
            go_wp2
            go_ret
            exact ⟨rfl, hbf⟩
#print axioms news_all
end Go.Proofs.Ytdipoaekdafbeaa
