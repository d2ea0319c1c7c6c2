/- The walk of LabelTexts. -/
import Derived.Test.YtmaddfjgiflkbaaDoorLbAwake
namespace Go.Proofs.YtmaddfjgiflkbaaDoor
set_option maxRecDepth 100000
open Go.RowKit
set_option maxRecDepth 100000
set_option linter.unusedVariables false
namespace L
theorem dig58 (k : Nat) (h : k < 256) : (58 : UInt8) ∉ C.dig k ∧ Lib.atoiAll (C.dig k) = .ok (k : Int) ∧ (C.dig k).length ≤ 3 := by
  have : (List.range 256).all (fun k => !(C.dig k).contains 58 && (match Lib.atoiAll (C.dig k) with | .ok v => v == (k : Int) | _ => false) && decide ((C.dig k).length ≤ 3)) = true := by kernel_rfl
  have h1 := List.all_eq_true.1 this k (List.mem_range.2 h)
  simp only [Bool.and_eq_true, Bool.not_eq_true', List.contains_eq_mem, decide_eq_false_iff_not] at h1
  refine ⟨h1.1.1, ?_, of_decide_eq_true h1.2⟩
  have h2 := h1.1.2
  cases ha : Lib.atoiAll (C.dig k) with
  | ok v => rw [ha] at h2; simp at h2; rw [h2]
  | «syntax» => rw [ha] at h2; cases h2
  | range => rw [ha] at h2; cases h2
theorem cut_text (k n : Nat) (h : k < 256) : lvlOf (bs (C.dig k ++ 58 :: C.text n)) = bs (C.dig k) ∧ setOf (bs (C.dig k ++ 58 :: C.text n)) = bs (C.text n) := by
  have e : Lib.cut (C.dig k ++ 58 :: C.text n) [58] = (C.dig k, C.text n, true) := by
    have hi : Lib.index (C.dig k ++ 58 :: C.text n) [58] = (C.dig k).length := by rw [Lib.index_one]; exact C.indexByte_hit 58 _ _ (dig58 k h).1
    unfold Lib.cut; rw [hi, if_pos (by omega)]; simp
  unfold lvlOf setOf
  rw [C.bs_list, e]
  exact ⟨rfl, rfl⟩
theorem text_in (k n : Nat) (h : k < 256) : text (k : Int) n = bs (C.dig k ++ 58 :: C.text n) := by
  unfold text; rw [if_pos (by omega), Int.toNat_natCast]
theorem parse_text (k n : Nat) (h : k < 256) (hn : n < 2 ^ 240) : parse (text (k : Int) n) = some ((k : Int), n) := by
  have hc := cut_text k n h
  unfold parse
  rw [text_in k n h, hc.1, hc.2, C.bs_list, (dig58 k h).2.1, C.parse_text n hn]
  simp only
  rw [text_in k n h, if_pos rfl]
theorem parse_none : parse ⟨#[]⟩ = none := by kernel_rfl
theorem text_parse (s : ByteArray) (z : Int) (n : Nat) (h : parse s = some (z, n)) : text z n = s ∧ n < 2 ^ 240 := by
  unfold parse at h
  split at h
  · split at h
    · rename_i c hc
      split at h
      · rename_i ht
        simp only [Option.some.injEq, Prod.mk.injEq] at h
        obtain ⟨rfl, rfl⟩ := h
        exact ⟨ht, C.parse_lt _ _ hc⟩
      · cases h
    · cases h
  · cases h
theorem parse_range (s : ByteArray) (z : Int) (n : Nat) (h : parse s = some (z, n)) : ∃ v : Nat, z = v ∧ v < 256 := by
  by_cases hr : 0 ≤ z ∧ z ≤ 255
  · exact ⟨z.toNat, by omega, by omega⟩
  · have h1 := (text_parse s z n h).1
    unfold text at h1
    rw [if_neg hr] at h1
    rw [← h1, parse_none] at h
    cases h
theorem text_out (z : Int) (n : Nat) (h : ¬ (0 ≤ z ∧ z ≤ 255)) : text z n = ⟨#[]⟩ := by unfold text; rw [if_neg h]
theorem parts_text (k n : Nat) (h : k < 256) : bs (C.dig k) ++ (⟨#[58]⟩ : ByteArray) ++ bs (C.text n) = text (k : Int) n := by
  rw [text_in k n h]
  apply ByteArray.ext
  simp [bs, ByteArray.data_append]
theorem size_dig (k : Nat) (h : k < 256) : (bs (C.dig k)).size ≤ 3 := by
  show (bs (C.dig k)).data.size ≤ 3
  simpa [bs] using (dig58 k h).2.2
theorem size_text (n : Nat) : (bs (C.text n)).size ≤ 1000 := by
  show (bs (C.text n)).data.size ≤ _
  have h1 := C.text_runs n
  have h2 := C.join_len n
  rw [h1]
  split <;> simp [bs] <;> omega
end L
theorem run_op_nsame_lab {o : Oper} {ev : Operand → Value} {w : World} {x y : Operand} {z : Int} {n : Nat} {t : TypeId} (ho : o.op = .binOp .neq 39 x y t) (hx : ev x = .agg (L.lv z n)) (hy : ev y = .agg (L.lv z n)) (hn : n < 2 ^ 240) : (execOp ev o).run Tryd.prog w = .ok (.value (.bool false)) w := by
  rw [run_op_neq_lab ho hx hy hn hn, decide_eq_true rfl, decide_eq_true rfl]; rfl
namespace LbTx
theorem vs_cons {n : Nat} (vs : List Value) (h : vs.length = n + 1) : ∃ v r, vs = v :: r ∧ r.length = n := by
  cases vs with
  | nil => simp at h
  | cons v r => exact ⟨v, r, rfl, by simpa using h⟩
theorem vs_22 (vs : List Value) (h : vs.length = 22) : ∃ v0 v1 v2 v3 v4 v5 v6 v7 v8 v9 v10 v11 v12 v13 v14 v15 v16 v17 v18 v19 v20 v21, vs = [v0, v1, v2, v3, v4, v5, v6, v7, v8, v9, v10, v11, v12, v13, v14, v15, v16, v17, v18, v19, v20, v21] := by
  obtain ⟨v0, r0, rfl, h0⟩ := vs_cons vs h
  obtain ⟨v1, r1, rfl, h1⟩ := vs_cons r0 h0
  obtain ⟨v2, r2, rfl, h2⟩ := vs_cons r1 h1
  obtain ⟨v3, r3, rfl, h3⟩ := vs_cons r2 h2
  obtain ⟨v4, r4, rfl, h4⟩ := vs_cons r3 h3
  obtain ⟨v5, r5, rfl, h5⟩ := vs_cons r4 h4
  obtain ⟨v6, r6, rfl, h6⟩ := vs_cons r5 h5
  obtain ⟨v7, r7, rfl, h7⟩ := vs_cons r6 h6
  obtain ⟨v8, r8, rfl, h8⟩ := vs_cons r7 h7
  obtain ⟨v9, r9, rfl, h9⟩ := vs_cons r8 h8
  obtain ⟨v10, r10, rfl, h10⟩ := vs_cons r9 h9
  obtain ⟨v11, r11, rfl, h11⟩ := vs_cons r10 h10
  obtain ⟨v12, r12, rfl, h12⟩ := vs_cons r11 h11
  obtain ⟨v13, r13, rfl, h13⟩ := vs_cons r12 h12
  obtain ⟨v14, r14, rfl, h14⟩ := vs_cons r13 h13
  obtain ⟨v15, r15, rfl, h15⟩ := vs_cons r14 h14
  obtain ⟨v16, r16, rfl, h16⟩ := vs_cons r15 h15
  obtain ⟨v17, r17, rfl, h17⟩ := vs_cons r16 h16
  obtain ⟨v18, r18, rfl, h18⟩ := vs_cons r17 h17
  obtain ⟨v19, r19, rfl, h19⟩ := vs_cons r18 h18
  obtain ⟨v20, r20, rfl, h20⟩ := vs_cons r19 h19
  obtain ⟨v21, r21, rfl, h21⟩ := vs_cons r20 h20
  obtain rfl := List.eq_nil_of_length_eq_zero h21
  exact ⟨v0, v1, v2, v3, v4, v5, v6, v7, v8, v9, v10, v11, v12, v13, v14, v15, v16, v17, v18, v19, v20, v21, rfl⟩

set_option maxHeartbeats 16000000 in
theorem ltexts_all (z : Int) (n : Nat) (s : ByteArray) (w : World) (hn : n < 2 ^ 240) (hs : s.size ≤ maxLen) (Ld : LaidF w) :
    Calls Tryd.prog 7 #[.agg (L.lv z n), .string s] w fun e w' => e = .returned (.bool true) ∧ Below w.heap.size w w' := by
  have HA0 := Lib.hid (LabAt.new w z n)
  have hb0 : Below w.heap.size w (w.alloc (.cells (L.lv z n) 39)) := (Below.refl _ w).alloc (Nat.le_refl _) _
  have HL0 := Lib.hid (Ld.below hb0)
  have h00 : (0 : Nat) < 2 ^ 240 := Nat.pow_pos (by decide)
  unfold maxLen at hs
  clear Ld
  by_cases hlen : 200 < s.size
  · have hlen' : (200 : Int) < (s.size : Int) := by omega
    go_enter Tryd.func7, Tryd.ntmps7
    go_wp2_with fail
    refine (lab_awake _ HL0.out).mono ?_
    rintro e w1 ⟨rfl, hb1⟩
    have hbw := hb0.trans (hb1.mono hb0.size)
    go_wp2
    go_ret
    exact ⟨rfl, hbw⟩
  have hlen' : ¬ (200 : Int) < (s.size : Int) := by omega
  have HT := Lib.hid (fun w Tb => LText_any z n w Tb)
  have hts : (L.text z n).size ≤ 100000 := by
    by_cases hr : 0 ≤ z ∧ z ≤ 255
    · obtain ⟨q, rfl⟩ : ∃ q : Nat, z = q := ⟨z.toNat, by omega⟩
      rw [← L.parts_text q n (by omega), ByteArray.size_append, ByteArray.size_append]
      have := L.size_dig q (by omega)
      have := L.size_text n
      show _ + 1 + _ ≤ _
      omega
    · rw [L.text_out z n hr]; exact Nat.zero_le _
  have HP1 := Lib.hid (fun w Ld => LParse_any (L.text z n) w Ld hts)
  have HP2 := Lib.hid (fun w Ld => LParse_any s w Ld (by omega))
  have hps : (∃ v c : Nat, v < 256 ∧ c < 2 ^ 240 ∧ L.parseIs s = #[.agg (L.lv (v : Nat) c), .bool true] ∧ L.text (v : Nat) c = s) ∨ (L.parseIs s = #[.agg (L.lv 0 0), .bool false]) := by
    cases hp : L.parse s with
    | none => right; unfold L.parseIs; rw [hp]
    | some y =>
      obtain ⟨z', c⟩ := y
      obtain ⟨v, rfl, hv⟩ := L.parse_range s z' c hp
      have := L.text_parse s v c hp
      left
      exact ⟨v, c, hv, this.2, by unfold L.parseIs; rw [hp], this.1⟩
  have hpt : (∃ q : Nat, z = q ∧ q < 256 ∧ L.parseIs (L.text z n) = #[.agg (L.lv z n), .bool true] ∧ bs (C.dig q) ++ (⟨#[58]⟩ : ByteArray) ++ bs (C.text n) = L.text z n) ∨ ((z < 0 ∨ 255 < z) ∧ L.parseIs (L.text z n) = #[.agg (L.lv 0 0), .bool false] ∧ L.text z n = ⟨#[]⟩) := by
    by_cases hr : 0 ≤ z ∧ z ≤ 255
    · left
      obtain ⟨q, rfl⟩ : ∃ q : Nat, z = q := ⟨z.toNat, by omega⟩
      exact ⟨q, rfl, by omega, by unfold L.parseIs; rw [L.parse_text q n (by omega) hn], L.parts_text q n (by omega)⟩
    · right
      exact ⟨by omega, by rw [L.text_out z n hr]; unfold L.parseIs; rw [L.parse_none], L.text_out z n hr⟩
  generalize L.text z n = t at *
  have hpx : ∃ (xz : Int) (xn : Nat) (xb : Bool), L.parseIs t = #[.agg (L.lv xz xn), .bool xb] := by
    rcases hpt with ⟨q, _, _, e, _⟩ | ⟨_, e, _⟩
    · exact ⟨_, _, _, e⟩
    · exact ⟨_, _, _, e⟩
  obtain ⟨xz, xn, xb, hpx⟩ := hpx
  rw [hpx] at HP1 hpt
  have Hpt := Lib.hid hpt
  clear hpx hts hpt
  go_enter Tryd.func7, Tryd.ntmps7
  go_wp2_with (refine load_lab rfl rfl rfl HA0.out ?_)
  refine (HT.out _ HL0.out.tabl).mono ?_
  rintro e w1 ⟨rfl, hb1⟩
  have HA1 := Lib.hid (HA0.out.below hb1 HA0.out.lt)
  have HL1 := Lib.hid (HL0.out.below hb1)
  have hbw1 := hb0.trans (hb1.mono hb0.size)
  clear hb1 hb0 HA0 HL0 HT
  go_wp2_with fail
  refine (HP1.out _ HL1.out).mono ?_
  rintro e w2 ⟨rfl, hb2⟩
  have HA2 := Lib.hid (HA1.out.below hb2 HA1.out.lt)
  have HL2 := Lib.hid (HL1.out.below hb2)
  have hbw2 := hbw1.trans (hb2.mono hbw1.size)
  have zA := HA2.out.lt
  have hz2 := hbw2.size
  have HN := Lib.hid (LabAt.new w2 0 0)
  clear hb2 hbw1 HA1 HL1 HP1
  go_wp2_with (rw [L.zero31]; refine store_lab rfl rfl rfl rfl HN.out ?_; intro w3 hs3 ho3; have HX3 := Lib.hid hs3; have HA3 := Lib.hid ((HA2.out.alloc (.cells (L.lv 0 0) 39)).only ho3 (by omega)); have HO3 := Lib.hid ho3; clear hs3 ho3)
  have hb23 : Below w2.heap.size w2 w3 := ((Below.refl _ w2).alloc (Nat.le_refl _) _).trans (HO3.out.below (Nat.le_refl _))
  have HL3 := Lib.hid (HL2.out.below hb23)
  have hbw3 := hbw2.trans (hb23.mono hz2)
  clear hb23 HO3 HA2 HL2 HN hbw2
  generalize w2.heap.size = g6 at *
  refine (HP2.out _ HL3.out).mono ?_
  rintro e w4 ⟨rfl, hb4⟩
  have HA4 := Lib.hid (HA3.out.below hb4 HA3.out.lt)
  have HX4 := Lib.hid (HX3.out.below hb4 HX3.out.lt)
  have HL4 := Lib.hid (HL3.out.below hb4)
  have hbw4 := hbw3.trans (hb4.mono hbw3.size)
  have zA4 := HA4.out.lt
  have zX4 := HX4.out.lt
  have hz4 := hbw4.size
  have HN4 := Lib.hid (LabAt.new w4 0 0)
  clear hb4 hbw3 HA3 HX3 HL3 HP2
  rcases hps with ⟨v, c, hv, hc, e2, htv⟩ | e2
  · rw [e2]
    clear e2
    have HNv := Lib.hid (fun w => number_is v w (by omega))
    have HRc := Lib.hid (fun w => RText_any c w)
    have hd3 := L.size_dig v hv
    have ht1000 := L.size_text c
    have hparts := L.parts_text v c hv
    rw [htv] at hparts
    obtain ⟨t1, ht1⟩ : ∃ t1, bs (C.dig v) ++ (⟨#[58]⟩ : ByteArray) = t1 := ⟨_, rfl⟩
    have hs1 : t1.size ≤ 4 := by rw [← ht1, ByteArray.size_append]; show _ + 1 ≤ 4; omega
    have HS1 := Lib.hid ht1
    rw [ht1] at hparts
    clear ht1
    have HS2 := Lib.hid hparts
    clear hparts htv
    generalize bs (C.text c) = t2 at *
    have HZ1 : Hid ((bs (C.dig v)).size + 1 ≤ 9223372036854775807) := Lib.hid (by omega)
    have HZ2 : Hid (t1.size + t2.size ≤ 9223372036854775807) := Lib.hid (by omega)
    go_wp2_with (rw [L.zero31]; refine store_lab rfl rfl rfl rfl HN4.out ?_; intro w5 hs5 ho5; have HY := Lib.hid hs5; have HA := Lib.hid ((HA4.out.alloc (.cells (L.lv 0 0) 39)).only ho5 (by omega)); have HX := Lib.hid ((HX4.out.alloc (.cells (L.lv 0 0) 39)).only ho5 (by omega)); have HO5 := Lib.hid ho5; clear hs5 ho5)
    have hb45 : Below w4.heap.size w4 w5 := ((Below.refl _ w4).alloc (Nat.le_refl _) _).trans (HO5.out.below (Nat.le_refl _))
    have HL := Lib.hid (HL4.out.below hb45)
    have hbw := hbw4.trans (hb45.mono hz4)
    clear hb45 HO5 HA4 HX4 HL4 HN4 hbw4 zA4 zX4 hz4
    generalize w4.heap.size = g8 at *
    generalize hW : w5 = W6 at *
    clear hW
    refine region_gen (VG W6.heap.size [.val (.bool true), .val (.bool true), .val (.pointer (some ⟨g8, 0, none⟩)), .val (.int .i64 (v : Nat)), .val (.string (bs (C.dig v))), .val (.string t1), .val (.pointer (some ⟨g8, 1, none⟩)), .val (.agg (C.cv c)), .val (.string t2), .val (.string s), .val (.string s), .val (.bool false), .val (.bool false), .val (.bool false), .val (.bool true), .val (.bool false), .val (.bool false), .any, .any, .any, .val (.bool false), .val (.bool false)]) (BS W6) (by kernel_rfl) (by kernel_rfl) (Below.refl _ _).drew ⟨?_, ?_, ?_, ?_, ?_, ?_, ?_, ?_, ?_, ?_, ?_, ?_, ?_, ?_, ?_, ?_, ?_, ?_, ?_, ?_, ?_, ?_, trivial⟩ ?_
    · go_light; intro listed a' w' hs hS hun hdep
      have e9 : a'.eval (.tmp 9) = .bool true := (hs.out 9 (by kernel_rfl)).trans (rfl)
      refine g_val (.bool true) hS rfl ?_ rfl
      have hcn := BigFrame.eval_const a'
      have hfn := BigFrame.eval_func a'
      clear hs hdep
      generalize a'.eval = ev at *
      go_simp
    · go_light; intro listed a' w' hs hS hun hdep
      have e26 : a'.eval (.tmp 26) = .bool true := hs.eval 0 _ 26 rfl (hdep ⟨0, .data⟩ (by simp) rfl) rfl
      refine g_val (.bool true) hS rfl ?_ rfl
      have hcn := BigFrame.eval_const a'
      have hfn := BigFrame.eval_func a'
      clear hs hdep
      generalize a'.eval = ev at *
      go_simp
    · go_light; intro listed a' w' hs hS hun hdep
      have eg : a'.eval (.tmp 27) = .bool true := hs.eval 1 _ 27 rfl (hdep ⟨1, .guard⟩ (by simp) rfl) rfl
      have e8 : a'.eval (.tmp 8) = .pointer (some ⟨g8, 0, none⟩) := (hs.out 8 (by kernel_rfl)).trans (rfl)
      refine g_val (.pointer (some ⟨g8, 0, none⟩)) hS (wanted_yes rfl rfl rfl eg) ?_ rfl
      have hcn := BigFrame.eval_const a'
      have hfn := BigFrame.eval_func a'
      clear hs hdep
      generalize a'.eval = ev at *
      go_simp
    · go_light; intro listed a' w' hs hS hun hdep
      have eg : a'.eval (.tmp 27) = .bool true := hs.eval 1 _ 27 rfl (hdep ⟨1, .guard⟩ (by simp) rfl) rfl
      have e28 : a'.eval (.tmp 28) = .pointer (some ⟨g8, 0, none⟩) := hs.eval 2 _ 28 rfl (hdep ⟨2, .data⟩ (by simp) rfl) rfl
      have hc := (HY.out.below hS HY.out.lt).level
      refine g_val (.int .i64 (v : Nat)) hS (wanted_yes rfl rfl rfl eg) ?_ rfl
      have hcn := BigFrame.eval_const a'
      have hfn := BigFrame.eval_func a'
      clear hs hdep
      generalize a'.eval = ev at *
      go_simp
    · go_light; intro listed a' w' hs hS hun hdep
      have eg : a'.eval (.tmp 27) = .bool true := hs.eval 1 _ 27 rfl (hdep ⟨1, .guard⟩ (by simp) rfl) rfl
      have e29 : a'.eval (.tmp 29) = .int .i64 (v : Nat) := hs.eval 3 _ 29 rfl (hdep ⟨3, .data⟩ (by simp) rfl) rfl
      refine g_call 37 #[.int .i64 (v : Nat)] hS (wanted_yes rfl rfl rfl eg) ?_ ?_
      · have hcn := BigFrame.eval_const a'; have hfn := BigFrame.eval_func a'; clear hs hdep; generalize a'.eval = ev at *; go_simp
      · exact c_val (HNv.out w') rfl
    · go_light; intro listed a' w' hs hS hun hdep
      have eg : a'.eval (.tmp 27) = .bool true := hs.eval 1 _ 27 rfl (hdep ⟨1, .guard⟩ (by simp) rfl) rfl
      have e30 : a'.eval (.tmp 30) = .string (bs (C.dig v)) := hs.eval 4 _ 30 rfl (hdep ⟨4, .data⟩ (by simp) rfl) rfl
      have had := HS1.out
      have hsz := HZ1.out
      refine g_val (.string t1) hS (wanted_yes rfl rfl rfl eg) ?_ rfl
      have hcn := BigFrame.eval_const a'
      have hfn := BigFrame.eval_func a'
      clear hs hdep
      generalize a'.eval = ev at *
      go_simp
    · go_light; intro listed a' w' hs hS hun hdep
      have eg : a'.eval (.tmp 27) = .bool true := hs.eval 1 _ 27 rfl (hdep ⟨1, .guard⟩ (by simp) rfl) rfl
      have e8 : a'.eval (.tmp 8) = .pointer (some ⟨g8, 0, none⟩) := (hs.out 8 (by kernel_rfl)).trans (rfl)
      refine g_val (.pointer (some ⟨g8, 1, none⟩)) hS (wanted_yes rfl rfl rfl eg) ?_ rfl
      have hcn := BigFrame.eval_const a'
      have hfn := BigFrame.eval_func a'
      clear hs hdep
      generalize a'.eval = ev at *
      go_simp
    · go_light; intro listed a' w' hs hS hun hdep
      have eg : a'.eval (.tmp 27) = .bool true := hs.eval 1 _ 27 rfl (hdep ⟨1, .guard⟩ (by simp) rfl) rfl
      have e32 : a'.eval (.tmp 32) = .pointer (some ⟨g8, 1, none⟩) := hs.eval 6 _ 32 rfl (hdep ⟨6, .data⟩ (by simp) rfl) rfl
      exact g_val (.agg (C.cv c)) hS (wanted_yes rfl rfl rfl eg) (run_op_load_labcats rfl e32 (HY.out.below hS HY.out.lt)) rfl
    · go_light; intro listed a' w' hs hS hun hdep
      have eg : a'.eval (.tmp 27) = .bool true := hs.eval 1 _ 27 rfl (hdep ⟨1, .guard⟩ (by simp) rfl) rfl
      have e33 : a'.eval (.tmp 33) = .agg (C.cv c) := hs.eval 7 _ 33 rfl (hdep ⟨7, .data⟩ (by simp) rfl) rfl
      refine g_call 26 #[.agg (C.cv c)] hS (wanted_yes rfl rfl rfl eg) ?_ ?_
      · have hcn := BigFrame.eval_const a'; have hfn := BigFrame.eval_func a'; clear hs hdep; generalize a'.eval = ev at *; go_simp
      · exact c_val (HRc.out w') rfl
    · go_light; intro listed a' w' hs hS hun hdep
      have eg : a'.eval (.tmp 27) = .bool true := hs.eval 1 _ 27 rfl (hdep ⟨1, .guard⟩ (by simp) rfl) rfl
      have e31 : a'.eval (.tmp 31) = .string t1 := hs.eval 5 _ 31 rfl (hdep ⟨5, .data⟩ (by simp) rfl) rfl
      have e34 : a'.eval (.tmp 34) = .string t2 := hs.eval 8 _ 34 rfl (hdep ⟨8, .data⟩ (by simp) rfl) rfl
      have had := HS2.out
      have hsz := HZ2.out
      refine g_val (.string s) hS (wanted_yes rfl rfl rfl eg) ?_ rfl
      have hcn := BigFrame.eval_const a'
      have hfn := BigFrame.eval_func a'
      clear hs hdep
      generalize a'.eval = ev at *
      go_simp
    · go_light; intro listed a' w' hs hS hun hdep
      have eg : a'.eval (.tmp 27) = .bool true := hs.eval 1 _ 27 rfl (hdep ⟨1, .guard⟩ (by simp) rfl) rfl
      have e1 : a'.eval (.tmp 1) = .string s := (hs.out 1 (by kernel_rfl)).trans (rfl)
      refine g_val (.string s) hS (wanted_yes rfl rfl rfl eg) ?_ rfl
      have hcn := BigFrame.eval_const a'
      have hfn := BigFrame.eval_func a'
      clear hs hdep
      generalize a'.eval = ev at *
      go_simp
    · go_light; intro listed a' w' hs hS hun hdep
      have eg : a'.eval (.tmp 27) = .bool true := hs.eval 1 _ 27 rfl (hdep ⟨1, .guard⟩ (by simp) rfl) rfl
      have e35 : a'.eval (.tmp 35) = .string s := hs.eval 9 _ 35 rfl (hdep ⟨9, .data⟩ (by simp) rfl) rfl
      have e36 : a'.eval (.tmp 36) = .string s := hs.eval 10 _ 36 rfl (hdep ⟨10, .data⟩ (by simp) rfl) rfl
      refine g_val (.bool false) hS (wanted_yes rfl rfl rfl eg) ?_ rfl
      have hcn := BigFrame.eval_const a'
      have hfn := BigFrame.eval_func a'
      clear hs hdep
      generalize a'.eval = ev at *
      go_simp
    · go_light; intro listed a' w' hs hS hun hdep
      have e27 : a'.eval (.tmp 27) = .bool true := hs.eval 1 _ 27 rfl (hdep ⟨1, .data⟩ (by simp) rfl) rfl
      have e37 : a'.eval (.tmp 37) = .bool false := hs.eval 11 _ 37 rfl (hdep ⟨11, .data⟩ (by simp) rfl) rfl
      refine g_val (.bool false) hS rfl ?_ rfl
      have hcn := BigFrame.eval_const a'
      have hfn := BigFrame.eval_func a'
      clear hs hdep
      generalize a'.eval = ev at *
      go_simp
    · go_light; intro listed a' w' hs hS hun hdep
      have e38 : a'.eval (.tmp 38) = .bool false := hs.eval 12 _ 38 rfl (hdep ⟨12, .data⟩ (by simp) rfl) rfl
      refine g_val (.bool false) hS rfl ?_ rfl
      have hcn := BigFrame.eval_const a'
      have hfn := BigFrame.eval_func a'
      clear hs hdep
      generalize a'.eval = ev at *
      go_simp
    · go_light; intro listed a' w' hs hS hun hdep
      have eg : a'.eval (.tmp 39) = .bool false := hs.eval 13 _ 39 rfl (hdep ⟨13, .guard⟩ (by simp) rfl) rfl
      have e9 : a'.eval (.tmp 9) = .bool true := (hs.out 9 (by kernel_rfl)).trans (rfl)
      refine g_val (.bool true) hS (wanted_yes rfl rfl rfl eg) ?_ rfl
      have hcn := BigFrame.eval_const a'
      have hfn := BigFrame.eval_func a'
      clear hs hdep
      generalize a'.eval = ev at *
      go_simp
    · go_light; intro listed a' w' hs hS hun hdep
      have eg : a'.eval (.tmp 39) = .bool false := hs.eval 13 _ 39 rfl (hdep ⟨13, .guard⟩ (by simp) rfl) rfl
      have e40 : a'.eval (.tmp 40) = .bool true := hs.eval 14 _ 40 rfl (hdep ⟨14, .data⟩ (by simp) rfl) rfl
      refine g_val (.bool false) hS (wanted_yes rfl rfl rfl eg) ?_ rfl
      have hcn := BigFrame.eval_const a'
      have hfn := BigFrame.eval_func a'
      clear hs hdep
      generalize a'.eval = ev at *
      go_simp
    · go_light; intro listed a' w' hs hS hun hdep
      have eg : a'.eval (.tmp 39) = .bool false := hs.eval 13 _ 39 rfl (hdep ⟨13, .guard⟩ (by simp) rfl) rfl
      have e41 : a'.eval (.tmp 41) = .bool false := hs.eval 15 _ 41 rfl (hdep ⟨15, .data⟩ (by simp) rfl) rfl
      refine g_val (.bool false) hS (wanted_yes rfl rfl rfl eg) ?_ rfl
      have hcn := BigFrame.eval_const a'
      have hfn := BigFrame.eval_func a'
      clear hs hdep
      generalize a'.eval = ev at *
      go_simp
    · go_light; intro listed a' w' hs hS hun hdep
      have eg : a'.eval (.tmp 42) = .bool false := hs.eval 16 _ 42 rfl (hdep ⟨16, .guard⟩ (by simp) rfl) rfl
      exact g_not hS (wanted_no rfl rfl rfl eg (by decide)) trivial
    · go_light; intro listed a' w' hs hS hun hdep
      have eg : a'.eval (.tmp 42) = .bool false := hs.eval 16 _ 42 rfl (hdep ⟨16, .guard⟩ (by simp) rfl) rfl
      exact g_not hS (wanted_no rfl rfl rfl eg (by decide)) trivial
    · go_light; intro listed a' w' hs hS hun hdep
      have eg : a'.eval (.tmp 42) = .bool false := hs.eval 16 _ 42 rfl (hdep ⟨16, .guard⟩ (by simp) rfl) rfl
      exact g_not hS (wanted_no rfl rfl rfl eg (by decide)) trivial
    · go_light; intro listed a' w' hs hS hun hdep
      have eg : a'.eval (.tmp 39) = .bool false := hs.eval 13 _ 39 rfl (hdep ⟨13, .guard⟩ (by simp) rfl) rfl
      have e42 : a'.eval (.tmp 42) = .bool false := hs.eval 16 _ 42 rfl (hdep ⟨16, .data⟩ (by simp) rfl) rfl
      refine g_val (.bool false) hS (wanted_yes rfl rfl rfl eg) ?_ rfl
      have hcn := BigFrame.eval_const a'
      have hfn := BigFrame.eval_func a'
      clear hs hdep
      generalize a'.eval = ev at *
      go_simp
    · go_light; intro listed a' w' hs hS hun hdep
      have e39 : a'.eval (.tmp 39) = .bool false := hs.eval 13 _ 39 rfl (hdep ⟨13, .data⟩ (by simp) rfl) rfl
      have e46 : a'.eval (.tmp 46) = .bool false := hs.eval 20 _ 46 rfl (hdep ⟨20, .data⟩ (by simp) rfl) rfl
      refine g_val (.bool false) hS rfl ?_ rfl
      have hcn := BigFrame.eval_const a'
      have hfn := BigFrame.eval_func a'
      clear hs hdep
      generalize a'.eval = ev at *
      go_simp
    · intro vs w6 hlen hV listed hall hS
      obtain ⟨v0, v1, v2, v3, v4, v5, v6, v7, v8, v9, v10, v11, v12, v13, v14, v15, v16, v17, v18, v19, v20, v21, rfl⟩ := vs_22 vs (hlen.trans rfl)
      have q0 : v0 = .bool true := hV 0 _ rfl
      have q1 : v1 = .bool true := hV 1 _ rfl
      have q2 : v2 = .pointer (some ⟨g8, 0, none⟩) := hV 2 _ rfl
      have q3 : v3 = .int .i64 (v : Nat) := hV 3 _ rfl
      have q4 : v4 = .string (bs (C.dig v)) := hV 4 _ rfl
      have q5 : v5 = .string t1 := hV 5 _ rfl
      have q6 : v6 = .pointer (some ⟨g8, 1, none⟩) := hV 6 _ rfl
      have q7 : v7 = .agg (C.cv c) := hV 7 _ rfl
      have q8 : v8 = .string t2 := hV 8 _ rfl
      have q9 : v9 = .string s := hV 9 _ rfl
      have q10 : v10 = .string s := hV 10 _ rfl
      have q11 : v11 = .bool false := hV 11 _ rfl
      have q12 : v12 = .bool false := hV 12 _ rfl
      have q13 : v13 = .bool false := hV 13 _ rfl
      have q14 : v14 = .bool true := hV 14 _ rfl
      have q15 : v15 = .bool false := hV 15 _ rfl
      have q16 : v16 = .bool false := hV 16 _ rfl
      have q20 : v20 = .bool false := hV 20 _ rfl
      have q21 : v21 = .bool false := hV 21 _ rfl
      have hbel : Below W6.heap.size W6 w6 := hS
      subst q0 q1 q2 q3 q4 q5 q6 q7 q8 q9 q10 q11 q12 q13 q14 q15 q16 q20 q21
      clear hV hS hall
      simp only [lays, Act.put, List.setIfInBounds_toArray, List.set_cons_zero, List.set_cons_succ]
      clear HNv HRc HS1 HS2 HZ1 HZ2
      have HA' := Lib.hid (HA.out.below hbel HA.out.lt)
      have HX' := Lib.hid (HX.out.below hbel HX.out.lt)
      have HL' := Lib.hid (HL.out.below hbel)
      have hbw' := hbw.trans (hbel.mono hbw.size)
      clear HA HX HL hbw HY hbel
      have HA := HA'
      have HX := HX'
      have HL := HL'
      have hbw := hbw'
      clear HA' HX' HL' hbw'
      rcases Hpt.out with ⟨q, rfl, hq, hx, hparts⟩ | ⟨hz, hx, ht⟩
      · have hx1 : L.lv xz xn = L.lv (q : Int) n := by
          have := congrArg (fun a : Array Value => a[0]?) hx
          simpa using this
        have hx2 : xb = true := by
          have := congrArg (fun a : Array Value => a[1]?) hx
          simpa using this
        subst hx2
        have HX' : Hid (LabAt w6 g6 (q : Int) n) := Lib.hid (by have := HX.out; unfold LabAt at *; rw [hx1] at this; exact this)
        clear HX hx hx1
        have HX := HX'
        clear HX'
        have hlv := HA.out.level
        have hq0 : ¬ ((q : Nat) : Int) < 0 := by omega
        have hq5 : ¬ (255 : Int) < ((q : Nat) : Int) := by omega
        have HNq := Lib.hid (fun w => number_is q w (by omega))
        have HRn := Lib.hid (fun w => RText_any n w)
        have hd3 := L.size_dig q hq
        have ht1000 := L.size_text n
        obtain ⟨t1, ht1⟩ : ∃ t1, bs (C.dig q) ++ (⟨#[58]⟩ : ByteArray) = t1 := ⟨_, rfl⟩
        have hs1 : t1.size ≤ 4 := by rw [← ht1, ByteArray.size_append]; show _ + 1 ≤ 4; omega
        have HS1 := Lib.hid ht1
        rw [ht1] at hparts
        clear ht1
        have HS2 := Lib.hid hparts
        clear hparts
        generalize bs (C.text n) = t2 at *
        have HZ1 : Hid ((bs (C.dig q)).size + 1 ≤ 9223372036854775807) := Lib.hid (by omega)
        have HZ2 : Hid (t1.size + t2.size ≤ 9223372036854775807) := Lib.hid (by omega)
        go_wp2
        clear hlv
        generalize hW : w6 = W10 at *
        clear hW
        refine region_gen (VG W10.heap.size [.val (.string t), .val (.pointer (some ⟨w.heap.size, 0, none⟩)), .val (.int .i64 (q : Nat)), .val (.string (bs (C.dig q))), .val (.string t1), .val (.pointer (some ⟨w.heap.size, 1, none⟩)), .val (.agg (C.cv n)), .val (.string t2), .val (.string t), .val (.bool true), .val (.bool true), .val (.agg (L.lv (q) (n))), .val (.agg (L.lv (q) (n))), .val (.bool true), .val (.bool true), .val (.bool true), .val (.bool true), .val (.bool true), .val (.bool true), .val (.bool true), .val (.bool true), .val (.bool true)]) (BS W10) (by kernel_rfl) (by kernel_rfl) (Below.refl _ _).drew ⟨?_, ?_, ?_, ?_, ?_, ?_, ?_, ?_, ?_, ?_, ?_, ?_, ?_, ?_, ?_, ?_, ?_, ?_, ?_, ?_, ?_, ?_, trivial⟩ ?_
        · go_light; intro listed a' w' hs hS hun hdep
          have e5 : a'.eval (.tmp 5) = .string t := (hs.out 5 (by kernel_rfl)).trans (rfl)
          refine g_val (.string t) hS rfl ?_ rfl
          have hcn := BigFrame.eval_const a'
          have hfn := BigFrame.eval_func a'
          clear hs hdep
          generalize a'.eval = ev at *
          go_simp
        · go_light; intro listed a' w' hs hS hun hdep
          have e2 : a'.eval (.tmp 2) = .pointer (some ⟨w.heap.size, 0, none⟩) := (hs.out 2 (by kernel_rfl)).trans (rfl)
          refine g_val (.pointer (some ⟨w.heap.size, 0, none⟩)) hS rfl ?_ rfl
          have hcn := BigFrame.eval_const a'
          have hfn := BigFrame.eval_func a'
          clear hs hdep
          generalize a'.eval = ev at *
          go_simp
        · go_light; intro listed a' w' hs hS hun hdep
          have e66 : a'.eval (.tmp 66) = .pointer (some ⟨w.heap.size, 0, none⟩) := hs.eval 1 _ 66 rfl (hdep ⟨1, .data⟩ (by simp) rfl) rfl
          have hc := (HA.out.below hS HA.out.lt).level
          refine g_val (.int .i64 (q : Nat)) hS rfl ?_ rfl
          have hcn := BigFrame.eval_const a'
          have hfn := BigFrame.eval_func a'
          clear hs hdep
          generalize a'.eval = ev at *
          go_simp
        · go_light; intro listed a' w' hs hS hun hdep
          have e67 : a'.eval (.tmp 67) = .int .i64 (q : Nat) := hs.eval 2 _ 67 rfl (hdep ⟨2, .data⟩ (by simp) rfl) rfl
          refine g_call 37 #[.int .i64 (q : Nat)] hS rfl ?_ ?_
          · have hcn := BigFrame.eval_const a'; have hfn := BigFrame.eval_func a'; clear hs hdep; generalize a'.eval = ev at *; go_simp
          · exact c_val (HNq.out w') rfl
        · go_light; intro listed a' w' hs hS hun hdep
          have e68 : a'.eval (.tmp 68) = .string (bs (C.dig q)) := hs.eval 3 _ 68 rfl (hdep ⟨3, .data⟩ (by simp) rfl) rfl
          have had := HS1.out
          have hsz := HZ1.out
          refine g_val (.string t1) hS rfl ?_ rfl
          have hcn := BigFrame.eval_const a'
          have hfn := BigFrame.eval_func a'
          clear hs hdep
          generalize a'.eval = ev at *
          go_simp
        · go_light; intro listed a' w' hs hS hun hdep
          have e2 : a'.eval (.tmp 2) = .pointer (some ⟨w.heap.size, 0, none⟩) := (hs.out 2 (by kernel_rfl)).trans (rfl)
          refine g_val (.pointer (some ⟨w.heap.size, 1, none⟩)) hS rfl ?_ rfl
          have hcn := BigFrame.eval_const a'
          have hfn := BigFrame.eval_func a'
          clear hs hdep
          generalize a'.eval = ev at *
          go_simp
        · go_light; intro listed a' w' hs hS hun hdep
          have e70 : a'.eval (.tmp 70) = .pointer (some ⟨w.heap.size, 1, none⟩) := hs.eval 5 _ 70 rfl (hdep ⟨5, .data⟩ (by simp) rfl) rfl
          exact g_val (.agg (C.cv n)) hS rfl (run_op_load_labcats rfl e70 (HA.out.below hS HA.out.lt)) rfl
        · go_light; intro listed a' w' hs hS hun hdep
          have e71 : a'.eval (.tmp 71) = .agg (C.cv n) := hs.eval 6 _ 71 rfl (hdep ⟨6, .data⟩ (by simp) rfl) rfl
          refine g_call 26 #[.agg (C.cv n)] hS rfl ?_ ?_
          · have hcn := BigFrame.eval_const a'; have hfn := BigFrame.eval_func a'; clear hs hdep; generalize a'.eval = ev at *; go_simp
          · exact c_val (HRn.out w') rfl
        · go_light; intro listed a' w' hs hS hun hdep
          have e69 : a'.eval (.tmp 69) = .string t1 := hs.eval 4 _ 69 rfl (hdep ⟨4, .data⟩ (by simp) rfl) rfl
          have e72 : a'.eval (.tmp 72) = .string t2 := hs.eval 7 _ 72 rfl (hdep ⟨7, .data⟩ (by simp) rfl) rfl
          have had := HS2.out
          have hsz := HZ2.out
          refine g_val (.string t) hS rfl ?_ rfl
          have hcn := BigFrame.eval_const a'
          have hfn := BigFrame.eval_func a'
          clear hs hdep
          generalize a'.eval = ev at *
          go_simp
        · go_light; intro listed a' w' hs hS hun hdep
          have e65 : a'.eval (.tmp 65) = .string t := hs.eval 0 _ 65 rfl (hdep ⟨0, .data⟩ (by simp) rfl) rfl
          have e73 : a'.eval (.tmp 73) = .string t := hs.eval 8 _ 73 rfl (hdep ⟨8, .data⟩ (by simp) rfl) rfl
          refine g_val (.bool true) hS rfl ?_ rfl
          have hcn := BigFrame.eval_const a'
          have hfn := BigFrame.eval_func a'
          clear hs hdep
          generalize a'.eval = ev at *
          go_simp
        · go_light; intro listed a' w' hs hS hun hdep
          have e74 : a'.eval (.tmp 74) = .bool true := hs.eval 9 _ 74 rfl (hdep ⟨9, .data⟩ (by simp) rfl) rfl
          refine g_val (.bool true) hS rfl ?_ rfl
          have hcn := BigFrame.eval_const a'
          have hfn := BigFrame.eval_func a'
          clear hs hdep
          generalize a'.eval = ev at *
          go_simp
        · go_light; intro listed a' w' hs hS hun hdep
          have eg : a'.eval (.tmp 75) = .bool true := hs.eval 10 _ 75 rfl (hdep ⟨10, .guard⟩ (by simp) rfl) rfl
          have e6 : a'.eval (.tmp 6) = .pointer (some ⟨g6, 0, none⟩) := (hs.out 6 (by kernel_rfl)).trans (rfl)
          exact g_val (.agg (L.lv (q) (n))) hS (wanted_yes rfl rfl rfl eg) (run_op_load_lab rfl e6 (HX.out.below hS HX.out.lt)) rfl
        · go_light; intro listed a' w' hs hS hun hdep
          have eg : a'.eval (.tmp 75) = .bool true := hs.eval 10 _ 75 rfl (hdep ⟨10, .guard⟩ (by simp) rfl) rfl
          have e2 : a'.eval (.tmp 2) = .pointer (some ⟨w.heap.size, 0, none⟩) := (hs.out 2 (by kernel_rfl)).trans (rfl)
          exact g_val (.agg (L.lv (q) (n))) hS (wanted_yes rfl rfl rfl eg) (run_op_load_lab rfl e2 (HA.out.below hS HA.out.lt)) rfl
        · go_light; intro listed a' w' hs hS hun hdep
          have eg : a'.eval (.tmp 75) = .bool true := hs.eval 10 _ 75 rfl (hdep ⟨10, .guard⟩ (by simp) rfl) rfl
          have e76 : a'.eval (.tmp 76) = .agg (L.lv (q) (n)) := hs.eval 11 _ 76 rfl (hdep ⟨11, .data⟩ (by simp) rfl) rfl
          have e77 : a'.eval (.tmp 77) = .agg (L.lv (q) (n)) := hs.eval 12 _ 77 rfl (hdep ⟨12, .data⟩ (by simp) rfl) rfl
          exact g_val (.bool true) hS (wanted_yes rfl rfl rfl eg) (run_op_same_lab rfl e76 e77 hn) rfl
        · go_light; intro listed a' w' hs hS hun hdep
          have e75 : a'.eval (.tmp 75) = .bool true := hs.eval 10 _ 75 rfl (hdep ⟨10, .data⟩ (by simp) rfl) rfl
          have e78 : a'.eval (.tmp 78) = .bool true := hs.eval 13 _ 78 rfl (hdep ⟨13, .data⟩ (by simp) rfl) rfl
          refine g_val (.bool true) hS rfl ?_ rfl
          have hcn := BigFrame.eval_const a'
          have hfn := BigFrame.eval_func a'
          clear hs hdep
          generalize a'.eval = ev at *
          go_simp
        · go_light; intro listed a' w' hs hS hun hdep
          have e79 : a'.eval (.tmp 79) = .bool true := hs.eval 14 _ 79 rfl (hdep ⟨14, .data⟩ (by simp) rfl) rfl
          refine g_val (.bool true) hS rfl ?_ rfl
          have hcn := BigFrame.eval_const a'
          have hfn := BigFrame.eval_func a'
          clear hs hdep
          generalize a'.eval = ev at *
          go_simp
        · go_light; intro listed a' w' hs hS hun hdep
          have eg : a'.eval (.tmp 80) = .bool true := hs.eval 15 _ 80 rfl (hdep ⟨15, .guard⟩ (by simp) rfl) rfl
          have e7 : a'.eval (.tmp 7) = .bool true := (hs.out 7 (by kernel_rfl)).trans (rfl)
          refine g_val (.bool true) hS (wanted_yes rfl rfl rfl eg) ?_ rfl
          have hcn := BigFrame.eval_const a'
          have hfn := BigFrame.eval_func a'
          clear hs hdep
          generalize a'.eval = ev at *
          go_simp
        · go_light; intro listed a' w' hs hS hun hdep
          have e80 : a'.eval (.tmp 80) = .bool true := hs.eval 15 _ 80 rfl (hdep ⟨15, .data⟩ (by simp) rfl) rfl
          have e81 : a'.eval (.tmp 81) = .bool true := hs.eval 16 _ 81 rfl (hdep ⟨16, .data⟩ (by simp) rfl) rfl
          refine g_val (.bool true) hS rfl ?_ rfl
          have hcn := BigFrame.eval_const a'
          have hfn := BigFrame.eval_func a'
          clear hs hdep
          generalize a'.eval = ev at *
          go_simp
        · go_light; intro listed a' w' hs hS hun hdep
          have e82 : a'.eval (.tmp 82) = .bool true := hs.eval 17 _ 82 rfl (hdep ⟨17, .data⟩ (by simp) rfl) rfl
          refine g_val (.bool true) hS rfl ?_ rfl
          have hcn := BigFrame.eval_const a'
          have hfn := BigFrame.eval_func a'
          clear hs hdep
          generalize a'.eval = ev at *
          go_simp
        · go_light; intro listed a' w' hs hS hun hdep
          have eg : a'.eval (.tmp 83) = .bool true := hs.eval 18 _ 83 rfl (hdep ⟨18, .guard⟩ (by simp) rfl) rfl
          refine g_call 32 #[] hS (wanted_yes rfl rfl rfl eg) ?_ ?_
          · have hcn := BigFrame.eval_const a'; have hfn := BigFrame.eval_func a'; clear hs hdep; generalize a'.eval = ev at *; go_simp
          · exact c_val (lab_awake w' (HL.out.below hS)) rfl
        · go_light; intro listed a' w' hs hS hun hdep
          have e83 : a'.eval (.tmp 83) = .bool true := hs.eval 18 _ 83 rfl (hdep ⟨18, .data⟩ (by simp) rfl) rfl
          have e84 : a'.eval (.tmp 84) = .bool true := hs.eval 19 _ 84 rfl (hdep ⟨19, .data⟩ (by simp) rfl) rfl
          refine g_val (.bool true) hS rfl ?_ rfl
          have hcn := BigFrame.eval_const a'
          have hfn := BigFrame.eval_func a'
          clear hs hdep
          generalize a'.eval = ev at *
          go_simp
        · go_light; intro listed a' w' hs hS hun hdep
          have e85 : a'.eval (.tmp 85) = .bool true := hs.eval 20 _ 85 rfl (hdep ⟨20, .data⟩ (by simp) rfl) rfl
          refine g_val (.bool true) hS rfl ?_ rfl
          have hcn := BigFrame.eval_const a'
          have hfn := BigFrame.eval_func a'
          clear hs hdep
          generalize a'.eval = ev at *
          go_simp
        · intro vs w10 hlen hV listed hall hS
          obtain ⟨v0, v1, v2, v3, v4, v5, v6, v7, v8, v9, v10, v11, v12, v13, v14, v15, v16, v17, v18, v19, v20, v21, rfl⟩ := vs_22 vs (hlen.trans rfl)
          have q0 : v0 = .string t := hV 0 _ rfl
          have q1 : v1 = .pointer (some ⟨w.heap.size, 0, none⟩) := hV 1 _ rfl
          have q2 : v2 = .int .i64 (q : Nat) := hV 2 _ rfl
          have q3 : v3 = .string (bs (C.dig q)) := hV 3 _ rfl
          have q4 : v4 = .string t1 := hV 4 _ rfl
          have q5 : v5 = .pointer (some ⟨w.heap.size, 1, none⟩) := hV 5 _ rfl
          have q6 : v6 = .agg (C.cv n) := hV 6 _ rfl
          have q7 : v7 = .string t2 := hV 7 _ rfl
          have q8 : v8 = .string t := hV 8 _ rfl
          have q9 : v9 = .bool true := hV 9 _ rfl
          have q10 : v10 = .bool true := hV 10 _ rfl
          have q11 : v11 = .agg (L.lv (q) (n)) := hV 11 _ rfl
          have q12 : v12 = .agg (L.lv (q) (n)) := hV 12 _ rfl
          have q13 : v13 = .bool true := hV 13 _ rfl
          have q14 : v14 = .bool true := hV 14 _ rfl
          have q15 : v15 = .bool true := hV 15 _ rfl
          have q16 : v16 = .bool true := hV 16 _ rfl
          have q17 : v17 = .bool true := hV 17 _ rfl
          have q18 : v18 = .bool true := hV 18 _ rfl
          have q19 : v19 = .bool true := hV 19 _ rfl
          have q20 : v20 = .bool true := hV 20 _ rfl
          have q21 : v21 = .bool true := hV 21 _ rfl
          have hbel : Below W10.heap.size W10 w10 := hS
          subst q0 q1 q2 q3 q4 q5 q6 q7 q8 q9 q10 q11 q12 q13 q14 q15 q16 q17 q18 q19 q20 q21
          clear hV hS hall
          simp only [lays, Act.put, List.setIfInBounds_toArray, List.set_cons_zero, List.set_cons_succ]
          go_wp2
          go_ret
          exact ⟨rfl, hbw.trans (hbel.mono hbw.size)⟩
      · have hx2 : xb = false := by
          have := congrArg (fun a : Array Value => a[1]?) hx
          simpa using this
        subst hx2
        subst ht
        have hlv := HA.out.level
        rcases hz with hz | hz
        all_goals
          try have hz1 : ¬ z < 0 := by omega
          go_wp2_with fail
          refine (lab_awake _ HL.out).mono ?_
          rintro e w7 ⟨rfl, hb7⟩
          have hbw7 := hbw.trans (hb7.mono hbw.size)
          go_wp2
          go_ret
          exact ⟨rfl, hbw7⟩
  · rw [e2]
    clear e2
    go_wp2_with (rw [L.zero31]; refine store_lab rfl rfl rfl rfl HN4.out ?_; intro w5 hs5 ho5; have HY := Lib.hid hs5; have HA := Lib.hid ((HA4.out.alloc (.cells (L.lv 0 0) 39)).only ho5 (by omega)); have HX := Lib.hid ((HX4.out.alloc (.cells (L.lv 0 0) 39)).only ho5 (by omega)); have HO5 := Lib.hid ho5; clear hs5 ho5)
    have hb45 : Below w4.heap.size w4 w5 := ((Below.refl _ w4).alloc (Nat.le_refl _) _).trans (HO5.out.below (Nat.le_refl _))
    have HL := Lib.hid (HL4.out.below hb45)
    have hbw := hbw4.trans (hb45.mono hz4)
    clear hb45 HO5 HA4 HX4 HL4 HN4 hbw4 zA4 zX4 hz4
    generalize w4.heap.size = g8 at *
    generalize hW : w5 = W6 at *
    clear hW
    refine region_gen (VG W6.heap.size [.val (.bool false), .val (.bool false), .any, .any, .any, .any, .any, .any, .any, .any, .any, .any, .val (.bool false), .val (.bool false), .val (.bool false), .val (.bool true), .val (.bool true), .val (.agg (L.lv (0) (0))), .val (.agg (L.lv (0) (0))), .val (.bool false), .val (.bool false), .val (.bool false)]) (BS W6) (by kernel_rfl) (by kernel_rfl) (Below.refl _ _).drew ⟨?_, ?_, ?_, ?_, ?_, ?_, ?_, ?_, ?_, ?_, ?_, ?_, ?_, ?_, ?_, ?_, ?_, ?_, ?_, ?_, ?_, ?_, trivial⟩ ?_
    · go_light; intro listed a' w' hs hS hun hdep
      have e9 : a'.eval (.tmp 9) = .bool false := (hs.out 9 (by kernel_rfl)).trans (rfl)
      refine g_val (.bool false) hS rfl ?_ rfl
      have hcn := BigFrame.eval_const a'
      have hfn := BigFrame.eval_func a'
      clear hs hdep
      generalize a'.eval = ev at *
      go_simp
    · go_light; intro listed a' w' hs hS hun hdep
      have e26 : a'.eval (.tmp 26) = .bool false := hs.eval 0 _ 26 rfl (hdep ⟨0, .data⟩ (by simp) rfl) rfl
      refine g_val (.bool false) hS rfl ?_ rfl
      have hcn := BigFrame.eval_const a'
      have hfn := BigFrame.eval_func a'
      clear hs hdep
      generalize a'.eval = ev at *
      go_simp
    · go_light; intro listed a' w' hs hS hun hdep
      have eg : a'.eval (.tmp 27) = .bool false := hs.eval 1 _ 27 rfl (hdep ⟨1, .guard⟩ (by simp) rfl) rfl
      exact g_not hS (wanted_no rfl rfl rfl eg (by decide)) trivial
    · go_light; intro listed a' w' hs hS hun hdep
      have eg : a'.eval (.tmp 27) = .bool false := hs.eval 1 _ 27 rfl (hdep ⟨1, .guard⟩ (by simp) rfl) rfl
      exact g_not hS (wanted_no rfl rfl rfl eg (by decide)) trivial
    · go_light; intro listed a' w' hs hS hun hdep
      have eg : a'.eval (.tmp 27) = .bool false := hs.eval 1 _ 27 rfl (hdep ⟨1, .guard⟩ (by simp) rfl) rfl
      exact g_not hS (wanted_no rfl rfl rfl eg (by decide)) trivial
    · go_light; intro listed a' w' hs hS hun hdep
      have eg : a'.eval (.tmp 27) = .bool false := hs.eval 1 _ 27 rfl (hdep ⟨1, .guard⟩ (by simp) rfl) rfl
      exact g_not hS (wanted_no rfl rfl rfl eg (by decide)) trivial
    · go_light; intro listed a' w' hs hS hun hdep
      have eg : a'.eval (.tmp 27) = .bool false := hs.eval 1 _ 27 rfl (hdep ⟨1, .guard⟩ (by simp) rfl) rfl
      exact g_not hS (wanted_no rfl rfl rfl eg (by decide)) trivial
    · go_light; intro listed a' w' hs hS hun hdep
      have eg : a'.eval (.tmp 27) = .bool false := hs.eval 1 _ 27 rfl (hdep ⟨1, .guard⟩ (by simp) rfl) rfl
      exact g_not hS (wanted_no rfl rfl rfl eg (by decide)) trivial
    · go_light; intro listed a' w' hs hS hun hdep
      have eg : a'.eval (.tmp 27) = .bool false := hs.eval 1 _ 27 rfl (hdep ⟨1, .guard⟩ (by simp) rfl) rfl
      exact g_not hS (wanted_no rfl rfl rfl eg (by decide)) trivial
    · go_light; intro listed a' w' hs hS hun hdep
      have eg : a'.eval (.tmp 27) = .bool false := hs.eval 1 _ 27 rfl (hdep ⟨1, .guard⟩ (by simp) rfl) rfl
      exact g_not hS (wanted_no rfl rfl rfl eg (by decide)) trivial
    · go_light; intro listed a' w' hs hS hun hdep
      have eg : a'.eval (.tmp 27) = .bool false := hs.eval 1 _ 27 rfl (hdep ⟨1, .guard⟩ (by simp) rfl) rfl
      exact g_not hS (wanted_no rfl rfl rfl eg (by decide)) trivial
    · go_light; intro listed a' w' hs hS hun hdep
      have eg : a'.eval (.tmp 27) = .bool false := hs.eval 1 _ 27 rfl (hdep ⟨1, .guard⟩ (by simp) rfl) rfl
      exact g_not hS (wanted_no rfl rfl rfl eg (by decide)) trivial
    · go_light; intro listed a' w' hs hS hun hdep
      have e27 : a'.eval (.tmp 27) = .bool false := hs.eval 1 _ 27 rfl (hdep ⟨1, .data⟩ (by simp) rfl) rfl
      refine g_val (.bool false) hS rfl ?_ rfl
      have hcn := BigFrame.eval_const a'
      have hfn := BigFrame.eval_func a'
      clear hs hdep
      generalize a'.eval = ev at *
      go_simp
    · go_light; intro listed a' w' hs hS hun hdep
      have e38 : a'.eval (.tmp 38) = .bool false := hs.eval 12 _ 38 rfl (hdep ⟨12, .data⟩ (by simp) rfl) rfl
      refine g_val (.bool false) hS rfl ?_ rfl
      have hcn := BigFrame.eval_const a'
      have hfn := BigFrame.eval_func a'
      clear hs hdep
      generalize a'.eval = ev at *
      go_simp
    · go_light; intro listed a' w' hs hS hun hdep
      have eg : a'.eval (.tmp 39) = .bool false := hs.eval 13 _ 39 rfl (hdep ⟨13, .guard⟩ (by simp) rfl) rfl
      have e9 : a'.eval (.tmp 9) = .bool false := (hs.out 9 (by kernel_rfl)).trans (rfl)
      refine g_val (.bool false) hS (wanted_yes rfl rfl rfl eg) ?_ rfl
      have hcn := BigFrame.eval_const a'
      have hfn := BigFrame.eval_func a'
      clear hs hdep
      generalize a'.eval = ev at *
      go_simp
    · go_light; intro listed a' w' hs hS hun hdep
      have eg : a'.eval (.tmp 39) = .bool false := hs.eval 13 _ 39 rfl (hdep ⟨13, .guard⟩ (by simp) rfl) rfl
      have e40 : a'.eval (.tmp 40) = .bool false := hs.eval 14 _ 40 rfl (hdep ⟨14, .data⟩ (by simp) rfl) rfl
      refine g_val (.bool true) hS (wanted_yes rfl rfl rfl eg) ?_ rfl
      have hcn := BigFrame.eval_const a'
      have hfn := BigFrame.eval_func a'
      clear hs hdep
      generalize a'.eval = ev at *
      go_simp
    · go_light; intro listed a' w' hs hS hun hdep
      have eg : a'.eval (.tmp 39) = .bool false := hs.eval 13 _ 39 rfl (hdep ⟨13, .guard⟩ (by simp) rfl) rfl
      have e41 : a'.eval (.tmp 41) = .bool true := hs.eval 15 _ 41 rfl (hdep ⟨15, .data⟩ (by simp) rfl) rfl
      refine g_val (.bool true) hS (wanted_yes rfl rfl rfl eg) ?_ rfl
      have hcn := BigFrame.eval_const a'
      have hfn := BigFrame.eval_func a'
      clear hs hdep
      generalize a'.eval = ev at *
      go_simp
    · go_light; intro listed a' w' hs hS hun hdep
      have eg : a'.eval (.tmp 42) = .bool true := hs.eval 16 _ 42 rfl (hdep ⟨16, .guard⟩ (by simp) rfl) rfl
      have e8 : a'.eval (.tmp 8) = .pointer (some ⟨g8, 0, none⟩) := (hs.out 8 (by kernel_rfl)).trans (rfl)
      exact g_val (.agg (L.lv (0) (0))) hS (wanted_yes rfl rfl rfl eg) (run_op_load_lab rfl e8 (HY.out.below hS HY.out.lt)) rfl
    · go_light; intro listed a' w' hs hS hun hdep
      have eg : a'.eval (.tmp 42) = .bool true := hs.eval 16 _ 42 rfl (hdep ⟨16, .guard⟩ (by simp) rfl) rfl
      refine g_val (.agg (L.lv 0 0)) hS (wanted_yes rfl rfl rfl eg) ?_ rfl
      have hcn := BigFrame.eval_const a'
      have hfn := BigFrame.eval_func a'
      clear hs hdep
      generalize a'.eval = ev at *
      rw [← L.zero31]
      go_simp
    · go_light; intro listed a' w' hs hS hun hdep
      have eg : a'.eval (.tmp 42) = .bool true := hs.eval 16 _ 42 rfl (hdep ⟨16, .guard⟩ (by simp) rfl) rfl
      have e43 : a'.eval (.tmp 43) = .agg (L.lv (0) (0)) := hs.eval 17 _ 43 rfl (hdep ⟨17, .data⟩ (by simp) rfl) rfl
      have e44 : a'.eval (.tmp 44) = .agg (L.lv (0) (0)) := hs.eval 18 _ 44 rfl (hdep ⟨18, .data⟩ (by simp) rfl) rfl
      exact g_val (.bool false) hS (wanted_yes rfl rfl rfl eg) (run_op_nsame_lab rfl e43 e44 h00) rfl
    · go_light; intro listed a' w' hs hS hun hdep
      have eg : a'.eval (.tmp 39) = .bool false := hs.eval 13 _ 39 rfl (hdep ⟨13, .guard⟩ (by simp) rfl) rfl
      have e42 : a'.eval (.tmp 42) = .bool true := hs.eval 16 _ 42 rfl (hdep ⟨16, .data⟩ (by simp) rfl) rfl
      have e45 : a'.eval (.tmp 45) = .bool false := hs.eval 19 _ 45 rfl (hdep ⟨19, .data⟩ (by simp) rfl) rfl
      refine g_val (.bool false) hS (wanted_yes rfl rfl rfl eg) ?_ rfl
      have hcn := BigFrame.eval_const a'
      have hfn := BigFrame.eval_func a'
      clear hs hdep
      generalize a'.eval = ev at *
      go_simp
    · go_light; intro listed a' w' hs hS hun hdep
      have e39 : a'.eval (.tmp 39) = .bool false := hs.eval 13 _ 39 rfl (hdep ⟨13, .data⟩ (by simp) rfl) rfl
      have e46 : a'.eval (.tmp 46) = .bool false := hs.eval 20 _ 46 rfl (hdep ⟨20, .data⟩ (by simp) rfl) rfl
      refine g_val (.bool false) hS rfl ?_ rfl
      have hcn := BigFrame.eval_const a'
      have hfn := BigFrame.eval_func a'
      clear hs hdep
      generalize a'.eval = ev at *
      go_simp
    · intro vs w6 hlen hV listed hall hS
      obtain ⟨v0, v1, v2, v3, v4, v5, v6, v7, v8, v9, v10, v11, v12, v13, v14, v15, v16, v17, v18, v19, v20, v21, rfl⟩ := vs_22 vs (hlen.trans rfl)
      have q0 : v0 = .bool false := hV 0 _ rfl
      have q1 : v1 = .bool false := hV 1 _ rfl
      have q12 : v12 = .bool false := hV 12 _ rfl
      have q13 : v13 = .bool false := hV 13 _ rfl
      have q14 : v14 = .bool false := hV 14 _ rfl
      have q15 : v15 = .bool true := hV 15 _ rfl
      have q16 : v16 = .bool true := hV 16 _ rfl
      have q17 : v17 = .agg (L.lv (0) (0)) := hV 17 _ rfl
      have q18 : v18 = .agg (L.lv (0) (0)) := hV 18 _ rfl
      have q19 : v19 = .bool false := hV 19 _ rfl
      have q20 : v20 = .bool false := hV 20 _ rfl
      have q21 : v21 = .bool false := hV 21 _ rfl
      have hbel : Below W6.heap.size W6 w6 := hS
      subst q0 q1 q12 q13 q14 q15 q16 q17 q18 q19 q20 q21
      clear hV hS hall
      simp only [lays, Act.put, List.setIfInBounds_toArray, List.set_cons_zero, List.set_cons_succ]
      have HA' := Lib.hid (HA.out.below hbel HA.out.lt)
      have HX' := Lib.hid (HX.out.below hbel HX.out.lt)
      have HL' := Lib.hid (HL.out.below hbel)
      have hbw' := hbw.trans (hbel.mono hbw.size)
      clear HA HX HL hbw HY hbel
      have HA := HA'
      have HX := HX'
      have HL := HL'
      have hbw := hbw'
      clear HA' HX' HL' hbw'
      rcases Hpt.out with ⟨q, rfl, hq, hx, hparts⟩ | ⟨hz, hx, ht⟩
      · have hx1 : L.lv xz xn = L.lv (q : Int) n := by
          have := congrArg (fun a : Array Value => a[0]?) hx
          simpa using this
        have hx2 : xb = true := by
          have := congrArg (fun a : Array Value => a[1]?) hx
          simpa using this
        subst hx2
        have HX' : Hid (LabAt w6 g6 (q : Int) n) := Lib.hid (by have := HX.out; unfold LabAt at *; rw [hx1] at this; exact this)
        clear HX hx hx1
        have HX := HX'
        clear HX'
        have hlv := HA.out.level
        have hq0 : ¬ ((q : Nat) : Int) < 0 := by omega
        have hq5 : ¬ (255 : Int) < ((q : Nat) : Int) := by omega
        have HNq := Lib.hid (fun w => number_is q w (by omega))
        have HRn := Lib.hid (fun w => RText_any n w)
        have hd3 := L.size_dig q hq
        have ht1000 := L.size_text n
        obtain ⟨t1, ht1⟩ : ∃ t1, bs (C.dig q) ++ (⟨#[58]⟩ : ByteArray) = t1 := ⟨_, rfl⟩
        have hs1 : t1.size ≤ 4 := by rw [← ht1, ByteArray.size_append]; show _ + 1 ≤ 4; omega
        have HS1 := Lib.hid ht1
        rw [ht1] at hparts
        clear ht1
        have HS2 := Lib.hid hparts
        clear hparts
        generalize bs (C.text n) = t2 at *
        have HZ1 : Hid ((bs (C.dig q)).size + 1 ≤ 9223372036854775807) := Lib.hid (by omega)
        have HZ2 : Hid (t1.size + t2.size ≤ 9223372036854775807) := Lib.hid (by omega)
        go_wp2
        clear hlv
        generalize hW : w6 = W10 at *
        clear hW
        refine region_gen (VG W10.heap.size [.val (.string t), .val (.pointer (some ⟨w.heap.size, 0, none⟩)), .val (.int .i64 (q : Nat)), .val (.string (bs (C.dig q))), .val (.string t1), .val (.pointer (some ⟨w.heap.size, 1, none⟩)), .val (.agg (C.cv n)), .val (.string t2), .val (.string t), .val (.bool true), .val (.bool true), .val (.agg (L.lv (q) (n))), .val (.agg (L.lv (q) (n))), .val (.bool true), .val (.bool true), .val (.bool true), .val (.bool true), .val (.bool true), .val (.bool true), .val (.bool true), .val (.bool true), .val (.bool true)]) (BS W10) (by kernel_rfl) (by kernel_rfl) (Below.refl _ _).drew ⟨?_, ?_, ?_, ?_, ?_, ?_, ?_, ?_, ?_, ?_, ?_, ?_, ?_, ?_, ?_, ?_, ?_, ?_, ?_, ?_, ?_, ?_, trivial⟩ ?_
        · go_light; intro listed a' w' hs hS hun hdep
          have e5 : a'.eval (.tmp 5) = .string t := (hs.out 5 (by kernel_rfl)).trans (rfl)
          refine g_val (.string t) hS rfl ?_ rfl
          have hcn := BigFrame.eval_const a'
          have hfn := BigFrame.eval_func a'
          clear hs hdep
          generalize a'.eval = ev at *
          go_simp
        · go_light; intro listed a' w' hs hS hun hdep
          have e2 : a'.eval (.tmp 2) = .pointer (some ⟨w.heap.size, 0, none⟩) := (hs.out 2 (by kernel_rfl)).trans (rfl)
          refine g_val (.pointer (some ⟨w.heap.size, 0, none⟩)) hS rfl ?_ rfl
          have hcn := BigFrame.eval_const a'
          have hfn := BigFrame.eval_func a'
          clear hs hdep
          generalize a'.eval = ev at *
          go_simp
        · go_light; intro listed a' w' hs hS hun hdep
          have e66 : a'.eval (.tmp 66) = .pointer (some ⟨w.heap.size, 0, none⟩) := hs.eval 1 _ 66 rfl (hdep ⟨1, .data⟩ (by simp) rfl) rfl
          have hc := (HA.out.below hS HA.out.lt).level
          refine g_val (.int .i64 (q : Nat)) hS rfl ?_ rfl
          have hcn := BigFrame.eval_const a'
          have hfn := BigFrame.eval_func a'
          clear hs hdep
          generalize a'.eval = ev at *
          go_simp
        · go_light; intro listed a' w' hs hS hun hdep
          have e67 : a'.eval (.tmp 67) = .int .i64 (q : Nat) := hs.eval 2 _ 67 rfl (hdep ⟨2, .data⟩ (by simp) rfl) rfl
          refine g_call 37 #[.int .i64 (q : Nat)] hS rfl ?_ ?_
          · have hcn := BigFrame.eval_const a'; have hfn := BigFrame.eval_func a'; clear hs hdep; generalize a'.eval = ev at *; go_simp
          · exact c_val (HNq.out w') rfl
        · go_light; intro listed a' w' hs hS hun hdep
          have e68 : a'.eval (.tmp 68) = .string (bs (C.dig q)) := hs.eval 3 _ 68 rfl (hdep ⟨3, .data⟩ (by simp) rfl) rfl
          have had := HS1.out
          have hsz := HZ1.out
          refine g_val (.string t1) hS rfl ?_ rfl
          have hcn := BigFrame.eval_const a'
          have hfn := BigFrame.eval_func a'
          clear hs hdep
          generalize a'.eval = ev at *
          go_simp
        · go_light; intro listed a' w' hs hS hun hdep
          have e2 : a'.eval (.tmp 2) = .pointer (some ⟨w.heap.size, 0, none⟩) := (hs.out 2 (by kernel_rfl)).trans (rfl)
          refine g_val (.pointer (some ⟨w.heap.size, 1, none⟩)) hS rfl ?_ rfl
          have hcn := BigFrame.eval_const a'
          have hfn := BigFrame.eval_func a'
          clear hs hdep
          generalize a'.eval = ev at *
          go_simp
        · go_light; intro listed a' w' hs hS hun hdep
          have e70 : a'.eval (.tmp 70) = .pointer (some ⟨w.heap.size, 1, none⟩) := hs.eval 5 _ 70 rfl (hdep ⟨5, .data⟩ (by simp) rfl) rfl
          exact g_val (.agg (C.cv n)) hS rfl (run_op_load_labcats rfl e70 (HA.out.below hS HA.out.lt)) rfl
        · go_light; intro listed a' w' hs hS hun hdep
          have e71 : a'.eval (.tmp 71) = .agg (C.cv n) := hs.eval 6 _ 71 rfl (hdep ⟨6, .data⟩ (by simp) rfl) rfl
          refine g_call 26 #[.agg (C.cv n)] hS rfl ?_ ?_
          · have hcn := BigFrame.eval_const a'; have hfn := BigFrame.eval_func a'; clear hs hdep; generalize a'.eval = ev at *; go_simp
          · exact c_val (HRn.out w') rfl
        · go_light; intro listed a' w' hs hS hun hdep
          have e69 : a'.eval (.tmp 69) = .string t1 := hs.eval 4 _ 69 rfl (hdep ⟨4, .data⟩ (by simp) rfl) rfl
          have e72 : a'.eval (.tmp 72) = .string t2 := hs.eval 7 _ 72 rfl (hdep ⟨7, .data⟩ (by simp) rfl) rfl
          have had := HS2.out
          have hsz := HZ2.out
          refine g_val (.string t) hS rfl ?_ rfl
          have hcn := BigFrame.eval_const a'
          have hfn := BigFrame.eval_func a'
          clear hs hdep
          generalize a'.eval = ev at *
          go_simp
        · go_light; intro listed a' w' hs hS hun hdep
          have e65 : a'.eval (.tmp 65) = .string t := hs.eval 0 _ 65 rfl (hdep ⟨0, .data⟩ (by simp) rfl) rfl
          have e73 : a'.eval (.tmp 73) = .string t := hs.eval 8 _ 73 rfl (hdep ⟨8, .data⟩ (by simp) rfl) rfl
          refine g_val (.bool true) hS rfl ?_ rfl
          have hcn := BigFrame.eval_const a'
          have hfn := BigFrame.eval_func a'
          clear hs hdep
          generalize a'.eval = ev at *
          go_simp
        · go_light; intro listed a' w' hs hS hun hdep
          have e74 : a'.eval (.tmp 74) = .bool true := hs.eval 9 _ 74 rfl (hdep ⟨9, .data⟩ (by simp) rfl) rfl
          refine g_val (.bool true) hS rfl ?_ rfl
          have hcn := BigFrame.eval_const a'
          have hfn := BigFrame.eval_func a'
          clear hs hdep
          generalize a'.eval = ev at *
          go_simp
        · go_light; intro listed a' w' hs hS hun hdep
          have eg : a'.eval (.tmp 75) = .bool true := hs.eval 10 _ 75 rfl (hdep ⟨10, .guard⟩ (by simp) rfl) rfl
          have e6 : a'.eval (.tmp 6) = .pointer (some ⟨g6, 0, none⟩) := (hs.out 6 (by kernel_rfl)).trans (rfl)
          exact g_val (.agg (L.lv (q) (n))) hS (wanted_yes rfl rfl rfl eg) (run_op_load_lab rfl e6 (HX.out.below hS HX.out.lt)) rfl
        · go_light; intro listed a' w' hs hS hun hdep
          have eg : a'.eval (.tmp 75) = .bool true := hs.eval 10 _ 75 rfl (hdep ⟨10, .guard⟩ (by simp) rfl) rfl
          have e2 : a'.eval (.tmp 2) = .pointer (some ⟨w.heap.size, 0, none⟩) := (hs.out 2 (by kernel_rfl)).trans (rfl)
          exact g_val (.agg (L.lv (q) (n))) hS (wanted_yes rfl rfl rfl eg) (run_op_load_lab rfl e2 (HA.out.below hS HA.out.lt)) rfl
        · go_light; intro listed a' w' hs hS hun hdep
          have eg : a'.eval (.tmp 75) = .bool true := hs.eval 10 _ 75 rfl (hdep ⟨10, .guard⟩ (by simp) rfl) rfl
          have e76 : a'.eval (.tmp 76) = .agg (L.lv (q) (n)) := hs.eval 11 _ 76 rfl (hdep ⟨11, .data⟩ (by simp) rfl) rfl
          have e77 : a'.eval (.tmp 77) = .agg (L.lv (q) (n)) := hs.eval 12 _ 77 rfl (hdep ⟨12, .data⟩ (by simp) rfl) rfl
          exact g_val (.bool true) hS (wanted_yes rfl rfl rfl eg) (run_op_same_lab rfl e76 e77 hn) rfl
        · go_light; intro listed a' w' hs hS hun hdep
          have e75 : a'.eval (.tmp 75) = .bool true := hs.eval 10 _ 75 rfl (hdep ⟨10, .data⟩ (by simp) rfl) rfl
          have e78 : a'.eval (.tmp 78) = .bool true := hs.eval 13 _ 78 rfl (hdep ⟨13, .data⟩ (by simp) rfl) rfl
          refine g_val (.bool true) hS rfl ?_ rfl
          have hcn := BigFrame.eval_const a'
          have hfn := BigFrame.eval_func a'
          clear hs hdep
          generalize a'.eval = ev at *
          go_simp
        · go_light; intro listed a' w' hs hS hun hdep
          have e79 : a'.eval (.tmp 79) = .bool true := hs.eval 14 _ 79 rfl (hdep ⟨14, .data⟩ (by simp) rfl) rfl
          refine g_val (.bool true) hS rfl ?_ rfl
          have hcn := BigFrame.eval_const a'
          have hfn := BigFrame.eval_func a'
          clear hs hdep
          generalize a'.eval = ev at *
          go_simp
        · go_light; intro listed a' w' hs hS hun hdep
          have eg : a'.eval (.tmp 80) = .bool true := hs.eval 15 _ 80 rfl (hdep ⟨15, .guard⟩ (by simp) rfl) rfl
          have e7 : a'.eval (.tmp 7) = .bool true := (hs.out 7 (by kernel_rfl)).trans (rfl)
          refine g_val (.bool true) hS (wanted_yes rfl rfl rfl eg) ?_ rfl
          have hcn := BigFrame.eval_const a'
          have hfn := BigFrame.eval_func a'
          clear hs hdep
          generalize a'.eval = ev at *
          go_simp
        · go_light; intro listed a' w' hs hS hun hdep
          have e80 : a'.eval (.tmp 80) = .bool true := hs.eval 15 _ 80 rfl (hdep ⟨15, .data⟩ (by simp) rfl) rfl
          have e81 : a'.eval (.tmp 81) = .bool true := hs.eval 16 _ 81 rfl (hdep ⟨16, .data⟩ (by simp) rfl) rfl
          refine g_val (.bool true) hS rfl ?_ rfl
          have hcn := BigFrame.eval_const a'
          have hfn := BigFrame.eval_func a'
          clear hs hdep
          generalize a'.eval = ev at *
          go_simp
        · go_light; intro listed a' w' hs hS hun hdep
          have e82 : a'.eval (.tmp 82) = .bool true := hs.eval 17 _ 82 rfl (hdep ⟨17, .data⟩ (by simp) rfl) rfl
          refine g_val (.bool true) hS rfl ?_ rfl
          have hcn := BigFrame.eval_const a'
          have hfn := BigFrame.eval_func a'
          clear hs hdep
          generalize a'.eval = ev at *
          go_simp
        · go_light; intro listed a' w' hs hS hun hdep
          have eg : a'.eval (.tmp 83) = .bool true := hs.eval 18 _ 83 rfl (hdep ⟨18, .guard⟩ (by simp) rfl) rfl
          refine g_call 32 #[] hS (wanted_yes rfl rfl rfl eg) ?_ ?_
          · have hcn := BigFrame.eval_const a'; have hfn := BigFrame.eval_func a'; clear hs hdep; generalize a'.eval = ev at *; go_simp
          · exact c_val (lab_awake w' (HL.out.below hS)) rfl
        · go_light; intro listed a' w' hs hS hun hdep
          have e83 : a'.eval (.tmp 83) = .bool true := hs.eval 18 _ 83 rfl (hdep ⟨18, .data⟩ (by simp) rfl) rfl
          have e84 : a'.eval (.tmp 84) = .bool true := hs.eval 19 _ 84 rfl (hdep ⟨19, .data⟩ (by simp) rfl) rfl
          refine g_val (.bool true) hS rfl ?_ rfl
          have hcn := BigFrame.eval_const a'
          have hfn := BigFrame.eval_func a'
          clear hs hdep
          generalize a'.eval = ev at *
          go_simp
        · go_light; intro listed a' w' hs hS hun hdep
          have e85 : a'.eval (.tmp 85) = .bool true := hs.eval 20 _ 85 rfl (hdep ⟨20, .data⟩ (by simp) rfl) rfl
          refine g_val (.bool true) hS rfl ?_ rfl
          have hcn := BigFrame.eval_const a'
          have hfn := BigFrame.eval_func a'
          clear hs hdep
          generalize a'.eval = ev at *
          go_simp
        · intro vs w10 hlen hV listed hall hS
          obtain ⟨v0, v1, v2, v3, v4, v5, v6, v7, v8, v9, v10, v11, v12, v13, v14, v15, v16, v17, v18, v19, v20, v21, rfl⟩ := vs_22 vs (hlen.trans rfl)
          have q0 : v0 = .string t := hV 0 _ rfl
          have q1 : v1 = .pointer (some ⟨w.heap.size, 0, none⟩) := hV 1 _ rfl
          have q2 : v2 = .int .i64 (q : Nat) := hV 2 _ rfl
          have q3 : v3 = .string (bs (C.dig q)) := hV 3 _ rfl
          have q4 : v4 = .string t1 := hV 4 _ rfl
          have q5 : v5 = .pointer (some ⟨w.heap.size, 1, none⟩) := hV 5 _ rfl
          have q6 : v6 = .agg (C.cv n) := hV 6 _ rfl
          have q7 : v7 = .string t2 := hV 7 _ rfl
          have q8 : v8 = .string t := hV 8 _ rfl
          have q9 : v9 = .bool true := hV 9 _ rfl
          have q10 : v10 = .bool true := hV 10 _ rfl
          have q11 : v11 = .agg (L.lv (q) (n)) := hV 11 _ rfl
          have q12 : v12 = .agg (L.lv (q) (n)) := hV 12 _ rfl
          have q13 : v13 = .bool true := hV 13 _ rfl
          have q14 : v14 = .bool true := hV 14 _ rfl
          have q15 : v15 = .bool true := hV 15 _ rfl
          have q16 : v16 = .bool true := hV 16 _ rfl
          have q17 : v17 = .bool true := hV 17 _ rfl
          have q18 : v18 = .bool true := hV 18 _ rfl
          have q19 : v19 = .bool true := hV 19 _ rfl
          have q20 : v20 = .bool true := hV 20 _ rfl
          have q21 : v21 = .bool true := hV 21 _ rfl
          have hbel : Below W10.heap.size W10 w10 := hS
          subst q0 q1 q2 q3 q4 q5 q6 q7 q8 q9 q10 q11 q12 q13 q14 q15 q16 q17 q18 q19 q20 q21
          clear hV hS hall
          simp only [lays, Act.put, List.setIfInBounds_toArray, List.set_cons_zero, List.set_cons_succ]
          go_wp2
          go_ret
          exact ⟨rfl, hbw.trans (hbel.mono hbw.size)⟩
      · have hx2 : xb = false := by
          have := congrArg (fun a : Array Value => a[1]?) hx
          simpa using this
        subst hx2
        subst ht
        have hlv := HA.out.level
        rcases hz with hz | hz
        all_goals
          try have hz1 : ¬ z < 0 := by omega
          go_wp2_with fail
          refine (lab_awake _ HL.out).mono ?_
          rintro e w7 ⟨rfl, hb7⟩
          have hbw7 := hbw.trans (hb7.mono hbw.size)
          go_wp2
          go_ret
          exact ⟨rfl, hbw7⟩
#print axioms ltexts_all
end LbTx
end Go.Proofs.YtmaddfjgiflkbaaDoor
