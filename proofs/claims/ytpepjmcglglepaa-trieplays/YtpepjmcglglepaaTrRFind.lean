/- The document's answer: the place of the route of an address. -/
import Derived.Test.YtpepjmcglglepaaTrRef
namespace Go.Proofs.Ytpepjmcglglepaa
open Go.RowKit
set_option maxRecDepth 100000
set_option linter.unusedVariables false
open R

theorem vs_26 (vs : List Value) (h : vs.length = 26) : ∃ v0 v1 v2 v3 v4 v5 v6 v7 v8 v9 v10 v11 v12 v13 v14 v15 v16 v17 v18 v19 v20 v21 v22 v23 v24 v25, vs = [v0, v1, v2, v3, v4, v5, v6, v7, v8, v9, v10, v11, v12, v13, v14, v15, v16, v17, v18, v19, v20, v21, v22, v23, v24, v25] := by
  obtain ⟨v0, r0, rfl, h0⟩ := vs_cons vs h
  obtain ⟨v1, r1, rfl, h1⟩ := vs_cons r0 h0
  obtain ⟨v2, r2, rfl, h2⟩ := vs_cons r1 h1
  obtain ⟨v3, r3, rfl, h3⟩ := vs_cons r2 h2
  obtain ⟨v4, r4, rfl, h4⟩ := vs_cons r3 h3
  obtain ⟨v5, r5, rfl, h5⟩ := vs_cons r4 h4
  obtain ⟨v6, r6, rfl, h6⟩ := vs_cons r5 h5
  obtain ⟨v7, r7, rfl, h7⟩ := vs_cons r6 h6
  obtain ⟨v8, r8, rfl, h8⟩ := vs_cons r7 h7
  obtain ⟨v9, r9, rfl, h9⟩ := vs_cons r8 h8
  obtain ⟨v10, r10, rfl, h10⟩ := vs_cons r9 h9
  obtain ⟨v11, r11, rfl, h11⟩ := vs_cons r10 h10
  obtain ⟨v12, r12, rfl, h12⟩ := vs_cons r11 h11
  obtain ⟨v13, r13, rfl, h13⟩ := vs_cons r12 h12
  obtain ⟨v14, r14, rfl, h14⟩ := vs_cons r13 h13
  obtain ⟨v15, r15, rfl, h15⟩ := vs_cons r14 h14
  obtain ⟨v16, r16, rfl, h16⟩ := vs_cons r15 h15
  obtain ⟨v17, r17, rfl, h17⟩ := vs_cons r16 h16
  obtain ⟨v18, r18, rfl, h18⟩ := vs_cons r17 h17
  obtain ⟨v19, r19, rfl, h19⟩ := vs_cons r18 h18
  obtain ⟨v20, r20, rfl, h20⟩ := vs_cons r19 h19
  obtain ⟨v21, r21, rfl, h21⟩ := vs_cons r20 h20
  obtain ⟨v22, r22, rfl, h22⟩ := vs_cons r21 h21
  obtain ⟨v23, r23, rfl, h23⟩ := vs_cons r22 h22
  obtain ⟨v24, r24, rfl, h24⟩ := vs_cons r23 h23
  obtain ⟨v25, r25, rfl, h25⟩ := vs_cons r24 h24
  obtain rfl := List.eq_nil_of_length_eq_zero h25
  exact ⟨v0, v1, v2, v3, v4, v5, v6, v7, v8, v9, v10, v11, v12, v13, v14, v15, v16, v17, v18, v19, v20, v21, v22, v23, v24, v25, rfl⟩
/-- The place of the one of the most bits among the first k that hold an address; -1: none does. -/
def R.IsBest (l : List Rt) (a : Nat) (k : Nat) (z : Int) : Prop := (z = -1 ∧ ∀ j, j < k → A.holds (l.getD j zR).a (l.getD j zR).b a = false) ∨
  ∃ m : Nat, m < k ∧ z = m ∧ A.holds (l.getD m zR).a (l.getD m zR).b a = true ∧ ∀ j, j < k → A.holds (l.getD j zR).a (l.getD j zR).b a = true → (l.getD j zR).b ≤ (l.getD m zR).b
theorem R.IsBest.skip {l : List Rt} {a k : Nat} {z : Int} (h : R.IsBest l a k z) (hk : A.holds (l.getD k zR).a (l.getD k zR).b a = false) : R.IsBest l a (k + 1) z := by
  rcases h with ⟨rfl, h⟩ | ⟨m, hm, rfl, h1, h2⟩
  · refine .inl ⟨rfl, fun j hj => ?_⟩
    by_cases e : j = k
    · subst e; exact hk
    · exact h j (by omega)
  · refine .inr ⟨m, by omega, rfl, h1, fun j hj hh => ?_⟩
    by_cases e : j = k
    · subst e; rw [hk] at hh; cases hh
    · exact h2 j (by omega) hh
theorem R.IsBest.first {l : List Rt} {a k : Nat} (h : R.IsBest l a k (-1)) (hk : A.holds (l.getD k zR).a (l.getD k zR).b a = true) : R.IsBest l a (k + 1) k := by
  rcases h with ⟨_, h⟩ | ⟨m, hm, e, _⟩
  · refine .inr ⟨k, by omega, rfl, hk, fun j hj hh => ?_⟩
    by_cases e : j = k
    · subst e; omega
    · rw [h j (by omega)] at hh; cases hh
  · omega
theorem R.IsBest.more {l : List Rt} {a k m : Nat} (h : R.IsBest l a k m) (hk : A.holds (l.getD k zR).a (l.getD k zR).b a = true) (hb : (l.getD m zR).b < (l.getD k zR).b) : R.IsBest l a (k + 1) k := by
  rcases h with ⟨e, _⟩ | ⟨m', hm, e, h1, h2⟩
  · omega
  · obtain rfl : m = m' := by omega
    refine .inr ⟨k, by omega, rfl, hk, fun j hj hh => ?_⟩
    by_cases e : j = k
    · subst e; omega
    · have := h2 j (by omega) hh; omega
theorem R.IsBest.less {l : List Rt} {a k m : Nat} (h : R.IsBest l a k m) (hb : ¬ (l.getD m zR).b < (l.getD k zR).b) : R.IsBest l a (k + 1) m := by
  rcases h with ⟨e, _⟩ | ⟨m', hm, e, h1, h2⟩
  · omega
  · obtain rfl : m = m' := by omega
    refine .inr ⟨m, by omega, rfl, h1, fun j hj hh => ?_⟩
    by_cases e : j = k
    · subst e; omega
    · exact h2 j (by omega) hh

set_option maxHeartbeats 8000000 in
theorem RFind_any (ao : Option Addr) (cap : Nat) (l : List Rt) (a : Nat) (w : World) (hrow : RtRow w ao l) (hl : l.length ≤ 1000) (hok : ∀ r ∈ l, r.a < 4294967296) (ha : a < 4294967296) :
    Calls Try.prog 13 #[.slice ao l.length cap, .int .u32 a] w fun e w' => ∃ z, e = .returned (.int .i64 z) ∧ R.IsBest l a l.length z ∧ Below w.heap.size w w' := by
  have HRow := Lib.hid hrow
  have HOk := Lib.hid hok
  have Ha := Lib.hid ha
  clear hrow hok ha
  go_enter Try.func13, Try.ntmps13
  go_wp2
  go_loopw [5, 6] (fun s i wr => ∃ (k : Nat) (z : Int), k ≤ l.length ∧ i = .int .i64 k ∧ s = .int .i64 z ∧ Hid (R.IsBest l a k z) ∧ Below w.heap.size w wr) (fun _ i _ => l.length - (intOf i).toNat)
  case atStart => exact ⟨0, -1, Nat.zero_le _, rfl, rfl, Lib.hid (.inl ⟨rfl, fun j hj => absurd hj (Nat.not_lt_zero _)⟩), Below.refl _ _⟩
  case round =>
    obtain ⟨k, z, hk, rfl, rfl, hB, hb⟩ := hrel
    by_cases hkl : k < l.length
    · obtain ⟨b, off, rfl, hcs⟩ := HRow.out.at2 k hkl
      obtain ⟨c0, c1, c2⟩ := hcs wr hb
      clear hcs
      have hkl2 : (k : Int) < (l.length : Int) := by omega
      have HHo := Lib.hid (fun w' => refholds_any (l.getD k zR).a (l.getD k zR).b a w' (HOk.out _ (getD_mem l k hkl)) Ha.out)
      cases hH : A.holds (l.getD k zR).a (l.getD k zR).b a
      · rw [hH] at HHo
        have HN := Lib.hid (hB.out.skip hH)
        generalize l.getD k zR = r2 at *
        clear hB
        go_wp2
        refine region_gen (VG wr.heap.size [.val (.slice (some ⟨b, off, none⟩) l.length cap), .val (.int .i64 k), .val (.pointer (some ⟨b, off + k * 3, none⟩)), .val (.pointer (some ⟨b, off + k * 3, none⟩)), .val (.agg #[.int .u32 r2.a, .int .i64 r2.b]), .val (.int .u32 a), .val (.bool false), .val (.bool false), .val (undef), .val (undef), .val (undef), .val (undef), .val (undef), .val (undef), .val (undef), .val (undef), .val (undef), .val (undef), .val (undef), .val (undef), .val (undef), .val (undef), .val (undef), .val (undef), .val (undef), .val (.bool false)]) (BS wr) (by kernel_rfl) (by kernel_rfl) (Below.refl _ _).drew ⟨?_, ?_, ?_, ?_, ?_, ?_, ?_, ?_, ?_, ?_, ?_, ?_, ?_, ?_, ?_, ?_, ?_, ?_, ?_, ?_, ?_, ?_, ?_, ?_, ?_, ?_, trivial⟩ ?_
        · go_light; intro listed a' w' hs hS hun hdep
          have e0 : a'.eval (.tmp 0) = .slice (some ⟨b, off, none⟩) l.length cap := (hs.out 0 (by kernel_rfl)).trans (rfl)
          refine g_val (.slice (some ⟨b, off, none⟩) l.length cap) hS rfl ?_ rfl
          have hcn := BigFrame.eval_const a'; have hfn := BigFrame.eval_func a'; clear hs hdep; generalize a'.eval = ev at *; go_simp
        · go_light; intro listed a' w' hs hS hun hdep
          have e6 : a'.eval (.tmp 6) = .int .i64 k := (hs.out 6 (by kernel_rfl)).trans (rfl)
          refine g_val (.int .i64 k) hS rfl ?_ rfl
          have hcn := BigFrame.eval_const a'; have hfn := BigFrame.eval_func a'; clear hs hdep; generalize a'.eval = ev at *; go_simp
        · go_light; intro listed a' w' hs hS hun hdep
          have e13 : a'.eval (.tmp 13) = .slice (some ⟨b, off, none⟩) l.length cap := hs.eval 0 _ 13 rfl (hdep ⟨0, .data⟩ (by simp) rfl) rfl
          have e14 : a'.eval (.tmp 14) = .int .i64 k := hs.eval 1 _ 14 rfl (hdep ⟨1, .data⟩ (by simp) rfl) rfl
          refine g_val (.pointer (some ⟨b, off + k * 3, none⟩)) hS rfl ?_ rfl
          have hcn := BigFrame.eval_const a'; have hfn := BigFrame.eval_func a'; clear hs hdep; generalize a'.eval = ev at *; go_simp
        · go_light; intro listed a' w' hs hS hun hdep
          have e15 : a'.eval (.tmp 15) = .pointer (some ⟨b, off + k * 3, none⟩) := hs.eval 2 _ 15 rfl (hdep ⟨2, .data⟩ (by simp) rfl) rfl
          refine g_val (.pointer (some ⟨b, off + k * 3, none⟩)) hS rfl ?_ rfl
          have hcn := BigFrame.eval_const a'; have hfn := BigFrame.eval_func a'; clear hs hdep; generalize a'.eval = ev at *; go_simp
        · go_light; intro listed a' w' hs hS hun hdep
          have e16 : a'.eval (.tmp 16) = .pointer (some ⟨b, off + k * 3, none⟩) := hs.eval 3 _ 16 rfl (hdep ⟨3, .data⟩ (by simp) rfl) rfl
          have kk0 := cell_below hS c0; have kk1 := cell_below hS c1
          refine g_val (.agg #[.int .u32 r2.a, .int .i64 r2.b]) hS rfl ?_ rfl
          have hcn := BigFrame.eval_const a'; have hfn := BigFrame.eval_func a'; clear hs hdep; generalize a'.eval = ev at *; go_simp
        · go_light; intro listed a' w' hs hS hun hdep
          have e1 : a'.eval (.tmp 1) = .int .u32 a := (hs.out 1 (by kernel_rfl)).trans (rfl)
          refine g_val (.int .u32 a) hS rfl ?_ rfl
          have hcn := BigFrame.eval_const a'; have hfn := BigFrame.eval_func a'; clear hs hdep; generalize a'.eval = ev at *; go_simp
        · go_light; intro listed a' w' hs hS hun hdep
          have e17 : a'.eval (.tmp 17) = .agg #[.int .u32 r2.a, .int .i64 r2.b] := hs.eval 4 _ 17 rfl (hdep ⟨4, .data⟩ (by simp) rfl) rfl
          have e18 : a'.eval (.tmp 18) = .int .u32 a := hs.eval 5 _ 18 rfl (hdep ⟨5, .data⟩ (by simp) rfl) rfl
          refine g_call 26 #[.agg #[.int .u32 r2.a, .int .i64 r2.b], .int .u32 a] hS rfl ?_ ?_
          · have hcn := BigFrame.eval_const a'; have hfn := BigFrame.eval_func a'; clear hs hdep; generalize a'.eval = ev at *; go_simp
          · exact c_val (HHo.out w') rfl
        · go_light; intro listed a' w' hs hS hun hdep
          have e19 : a'.eval (.tmp 19) = .bool false := hs.eval 6 _ 19 rfl (hdep ⟨6, .data⟩ (by simp) rfl) rfl
          refine g_val (.bool false) hS rfl ?_ rfl
          have hcn := BigFrame.eval_const a'; have hfn := BigFrame.eval_func a'; clear hs hdep; generalize a'.eval = ev at *; go_simp
        · go_light; intro listed a' w' hs hS hun hdep
          have eg : a'.eval (.tmp 20) = .bool false := hs.eval 7 _ 20 rfl (hdep ⟨7, .guard⟩ (by simp) rfl) rfl
          exact g_not hS (wanted_no rfl rfl rfl eg (by decide)) rfl
        · go_light; intro listed a' w' hs hS hun hdep
          have eg : a'.eval (.tmp 20) = .bool false := hs.eval 7 _ 20 rfl (hdep ⟨7, .guard⟩ (by simp) rfl) rfl
          exact g_not hS (wanted_no rfl rfl rfl eg (by decide)) rfl
        · go_light; intro listed a' w' hs hS hun hdep
          have eg : a'.eval (.tmp 20) = .bool false := hs.eval 7 _ 20 rfl (hdep ⟨7, .guard⟩ (by simp) rfl) rfl
          exact g_not hS (wanted_no rfl rfl rfl eg (by decide)) rfl
        · go_light; intro listed a' w' hs hS hun hdep
          have eg : a'.eval (.tmp 23) = undef := hs.eval 10 _ 23 rfl (hdep ⟨10, .guard⟩ (by simp) rfl) rfl
          exact g_not hS (wanted_un rfl rfl rfl eg) rfl
        · go_light; intro listed a' w' hs hS hun hdep
          have eg : a'.eval (.tmp 23) = undef := hs.eval 10 _ 23 rfl (hdep ⟨10, .guard⟩ (by simp) rfl) rfl
          exact g_not hS (wanted_un rfl rfl rfl eg) rfl
        · go_light; intro listed a' w' hs hS hun hdep
          have eg : a'.eval (.tmp 23) = undef := hs.eval 10 _ 23 rfl (hdep ⟨10, .guard⟩ (by simp) rfl) rfl
          exact g_not hS (wanted_un rfl rfl rfl eg) rfl
        · go_light; intro listed a' w' hs hS hun hdep
          have eg : a'.eval (.tmp 23) = undef := hs.eval 10 _ 23 rfl (hdep ⟨10, .guard⟩ (by simp) rfl) rfl
          exact g_not hS (wanted_un rfl rfl rfl eg) rfl
        · go_light; intro listed a' w' hs hS hun hdep
          have eg : a'.eval (.tmp 23) = undef := hs.eval 10 _ 23 rfl (hdep ⟨10, .guard⟩ (by simp) rfl) rfl
          exact g_not hS (wanted_un rfl rfl rfl eg) rfl
        · go_light; intro listed a' w' hs hS hun hdep
          have eg : a'.eval (.tmp 23) = undef := hs.eval 10 _ 23 rfl (hdep ⟨10, .guard⟩ (by simp) rfl) rfl
          exact g_not hS (wanted_un rfl rfl rfl eg) rfl
        · go_light; intro listed a' w' hs hS hun hdep
          have eg : a'.eval (.tmp 23) = undef := hs.eval 10 _ 23 rfl (hdep ⟨10, .guard⟩ (by simp) rfl) rfl
          exact g_not hS (wanted_un rfl rfl rfl eg) rfl
        · go_light; intro listed a' w' hs hS hun hdep
          have eg : a'.eval (.tmp 23) = undef := hs.eval 10 _ 23 rfl (hdep ⟨10, .guard⟩ (by simp) rfl) rfl
          exact g_not hS (wanted_un rfl rfl rfl eg) rfl
        · go_light; intro listed a' w' hs hS hun hdep
          have eg : a'.eval (.tmp 23) = undef := hs.eval 10 _ 23 rfl (hdep ⟨10, .guard⟩ (by simp) rfl) rfl
          exact g_not hS (wanted_un rfl rfl rfl eg) rfl
        · go_light; intro listed a' w' hs hS hun hdep
          have eg : a'.eval (.tmp 23) = undef := hs.eval 10 _ 23 rfl (hdep ⟨10, .guard⟩ (by simp) rfl) rfl
          exact g_not hS (wanted_un rfl rfl rfl eg) rfl
        · go_light; intro listed a' w' hs hS hun hdep
          have eg : a'.eval (.tmp 23) = undef := hs.eval 10 _ 23 rfl (hdep ⟨10, .guard⟩ (by simp) rfl) rfl
          exact g_not hS (wanted_un rfl rfl rfl eg) rfl
        · go_light; intro listed a' w' hs hS hun hdep
          have eg : a'.eval (.tmp 23) = undef := hs.eval 10 _ 23 rfl (hdep ⟨10, .guard⟩ (by simp) rfl) rfl
          exact g_not hS (wanted_un rfl rfl rfl eg) rfl
        · go_light; intro listed a' w' hs hS hun hdep
          have eg : a'.eval (.tmp 23) = undef := hs.eval 10 _ 23 rfl (hdep ⟨10, .guard⟩ (by simp) rfl) rfl
          exact g_not hS (wanted_un rfl rfl rfl eg) rfl
        · go_light; intro listed a' w' hs hS hun hdep
          have eg : a'.eval (.tmp 20) = .bool false := hs.eval 7 _ 20 rfl (hdep ⟨7, .guard⟩ (by simp) rfl) rfl
          exact g_not hS (wanted_no rfl rfl rfl eg (by decide)) rfl
        · go_light; intro listed a' w' hs hS hun hdep
          have e20 : a'.eval (.tmp 20) = .bool false := hs.eval 7 _ 20 rfl (hdep ⟨7, .data⟩ (by simp) rfl) rfl
          have e37 : a'.eval (.tmp 37) = undef := hs.eval 24 _ 37 rfl (hdep ⟨24, .data⟩ (by simp) rfl) rfl
          refine g_val (.bool false) hS rfl ?_ rfl
          have hcn := BigFrame.eval_const a'; have hfn := BigFrame.eval_func a'; clear hs hdep; generalize a'.eval = ev at *; go_simp
        · intro vs w6 hlen hV listed hall hS
          obtain ⟨v0, v1, v2, v3, v4, v5, v6, v7, v8, v9, v10, v11, v12, v13, v14, v15, v16, v17, v18, v19, v20, v21, v22, v23, v24, v25, rfl⟩ := vs_26 vs (hlen.trans rfl)
          have q0 : v0 = .slice (some ⟨b, off, none⟩) l.length cap := hV 0 _ rfl
          have q1 : v1 = .int .i64 k := hV 1 _ rfl
          have q2 : v2 = .pointer (some ⟨b, off + k * 3, none⟩) := hV 2 _ rfl
          have q3 : v3 = .pointer (some ⟨b, off + k * 3, none⟩) := hV 3 _ rfl
          have q4 : v4 = .agg #[.int .u32 r2.a, .int .i64 r2.b] := hV 4 _ rfl
          have q5 : v5 = .int .u32 a := hV 5 _ rfl
          have q6 : v6 = .bool false := hV 6 _ rfl
          have q7 : v7 = .bool false := hV 7 _ rfl
          have q8 : v8 = undef := hV 8 _ rfl
          have q9 : v9 = undef := hV 9 _ rfl
          have q10 : v10 = undef := hV 10 _ rfl
          have q11 : v11 = undef := hV 11 _ rfl
          have q12 : v12 = undef := hV 12 _ rfl
          have q13 : v13 = undef := hV 13 _ rfl
          have q14 : v14 = undef := hV 14 _ rfl
          have q15 : v15 = undef := hV 15 _ rfl
          have q16 : v16 = undef := hV 16 _ rfl
          have q17 : v17 = undef := hV 17 _ rfl
          have q18 : v18 = undef := hV 18 _ rfl
          have q19 : v19 = undef := hV 19 _ rfl
          have q20 : v20 = undef := hV 20 _ rfl
          have q21 : v21 = undef := hV 21 _ rfl
          have q22 : v22 = undef := hV 22 _ rfl
          have q23 : v23 = undef := hV 23 _ rfl
          have q24 : v24 = undef := hV 24 _ rfl
          have q25 : v25 = .bool false := hV 25 _ rfl
          have hbel : Below wr.heap.size wr w6 := hS
          subst q0 q1 q2 q3 q4 q5 q6 q7 q8 q9 q10 q11 q12 q13 q14 q15 q16 q17 q18 q19 q20 q21 q22 q23 q24 q25
          clear hV hS hall hlen
          clear listed
          simp only [lays, Act.put, List.setIfInBounds_toArray, List.set_cons_zero, List.set_cons_succ]
          have hbw6 := hb.trans (hbel.mono hb.size)
          clear hb hbel c0 c1 c2
          go_wp2
          go_roundw
          case rel => exact ⟨k + 1, z, by omega, by go_num, by first | rfl | go_num, HN, hbw6⟩
          case measure => simp [intOf]; omega
      · rw [hH] at HHo
        rcases hB.out with ⟨rfl, hno⟩ | ⟨m, hm, rfl, h1, h2⟩
        · have HN := Lib.hid (R.IsBest.first hB.out hH)
          generalize l.getD k zR = r2 at *
          clear hB hno
          go_wp2
          refine region_gen (VG wr.heap.size [.val (.slice (some ⟨b, off, none⟩) l.length cap), .val (.int .i64 k), .val (.pointer (some ⟨b, off + k * 3, none⟩)), .val (.pointer (some ⟨b, off + k * 3, none⟩)), .val (.agg #[.int .u32 r2.a, .int .i64 r2.b]), .val (.int .u32 a), .val (.bool true), .val (.bool true), .val (.int .i64 (-1)), .val (.bool true), .val (.bool true), .val (undef), .val (undef), .val (undef), .val (undef), .val (undef), .val (undef), .val (undef), .val (undef), .val (undef), .val (undef), .val (undef), .val (undef), .val (undef), .val (.bool true), .val (.bool true)]) (BS wr) (by kernel_rfl) (by kernel_rfl) (Below.refl _ _).drew ⟨?_, ?_, ?_, ?_, ?_, ?_, ?_, ?_, ?_, ?_, ?_, ?_, ?_, ?_, ?_, ?_, ?_, ?_, ?_, ?_, ?_, ?_, ?_, ?_, ?_, ?_, trivial⟩ ?_
          · go_light; intro listed a' w' hs hS hun hdep
            have e0 : a'.eval (.tmp 0) = .slice (some ⟨b, off, none⟩) l.length cap := (hs.out 0 (by kernel_rfl)).trans (rfl)
            refine g_val (.slice (some ⟨b, off, none⟩) l.length cap) hS rfl ?_ rfl
            have hcn := BigFrame.eval_const a'; have hfn := BigFrame.eval_func a'; clear hs hdep; generalize a'.eval = ev at *; go_simp
          · go_light; intro listed a' w' hs hS hun hdep
            have e6 : a'.eval (.tmp 6) = .int .i64 k := (hs.out 6 (by kernel_rfl)).trans (rfl)
            refine g_val (.int .i64 k) hS rfl ?_ rfl
            have hcn := BigFrame.eval_const a'; have hfn := BigFrame.eval_func a'; clear hs hdep; generalize a'.eval = ev at *; go_simp
          · go_light; intro listed a' w' hs hS hun hdep
            have e13 : a'.eval (.tmp 13) = .slice (some ⟨b, off, none⟩) l.length cap := hs.eval 0 _ 13 rfl (hdep ⟨0, .data⟩ (by simp) rfl) rfl
            have e14 : a'.eval (.tmp 14) = .int .i64 k := hs.eval 1 _ 14 rfl (hdep ⟨1, .data⟩ (by simp) rfl) rfl
            refine g_val (.pointer (some ⟨b, off + k * 3, none⟩)) hS rfl ?_ rfl
            have hcn := BigFrame.eval_const a'; have hfn := BigFrame.eval_func a'; clear hs hdep; generalize a'.eval = ev at *; go_simp
          · go_light; intro listed a' w' hs hS hun hdep
            have e15 : a'.eval (.tmp 15) = .pointer (some ⟨b, off + k * 3, none⟩) := hs.eval 2 _ 15 rfl (hdep ⟨2, .data⟩ (by simp) rfl) rfl
            refine g_val (.pointer (some ⟨b, off + k * 3, none⟩)) hS rfl ?_ rfl
            have hcn := BigFrame.eval_const a'; have hfn := BigFrame.eval_func a'; clear hs hdep; generalize a'.eval = ev at *; go_simp
          · go_light; intro listed a' w' hs hS hun hdep
            have e16 : a'.eval (.tmp 16) = .pointer (some ⟨b, off + k * 3, none⟩) := hs.eval 3 _ 16 rfl (hdep ⟨3, .data⟩ (by simp) rfl) rfl
            have kk0 := cell_below hS c0; have kk1 := cell_below hS c1
            refine g_val (.agg #[.int .u32 r2.a, .int .i64 r2.b]) hS rfl ?_ rfl
            have hcn := BigFrame.eval_const a'; have hfn := BigFrame.eval_func a'; clear hs hdep; generalize a'.eval = ev at *; go_simp
          · go_light; intro listed a' w' hs hS hun hdep
            have e1 : a'.eval (.tmp 1) = .int .u32 a := (hs.out 1 (by kernel_rfl)).trans (rfl)
            refine g_val (.int .u32 a) hS rfl ?_ rfl
            have hcn := BigFrame.eval_const a'; have hfn := BigFrame.eval_func a'; clear hs hdep; generalize a'.eval = ev at *; go_simp
          · go_light; intro listed a' w' hs hS hun hdep
            have e17 : a'.eval (.tmp 17) = .agg #[.int .u32 r2.a, .int .i64 r2.b] := hs.eval 4 _ 17 rfl (hdep ⟨4, .data⟩ (by simp) rfl) rfl
            have e18 : a'.eval (.tmp 18) = .int .u32 a := hs.eval 5 _ 18 rfl (hdep ⟨5, .data⟩ (by simp) rfl) rfl
            refine g_call 26 #[.agg #[.int .u32 r2.a, .int .i64 r2.b], .int .u32 a] hS rfl ?_ ?_
            · have hcn := BigFrame.eval_const a'; have hfn := BigFrame.eval_func a'; clear hs hdep; generalize a'.eval = ev at *; go_simp
            · exact c_val (HHo.out w') rfl
          · go_light; intro listed a' w' hs hS hun hdep
            have e19 : a'.eval (.tmp 19) = .bool true := hs.eval 6 _ 19 rfl (hdep ⟨6, .data⟩ (by simp) rfl) rfl
            refine g_val (.bool true) hS rfl ?_ rfl
            have hcn := BigFrame.eval_const a'; have hfn := BigFrame.eval_func a'; clear hs hdep; generalize a'.eval = ev at *; go_simp
          · go_light; intro listed a' w' hs hS hun hdep
            have eg : a'.eval (.tmp 20) = .bool true := hs.eval 7 _ 20 rfl (hdep ⟨7, .guard⟩ (by simp) rfl) rfl
            have e5 : a'.eval (.tmp 5) = .int .i64 (-1) := (hs.out 5 (by kernel_rfl)).trans (rfl)
            refine g_val (.int .i64 (-1)) hS (wanted_yes rfl rfl rfl eg) ?_ rfl
            have hcn := BigFrame.eval_const a'; have hfn := BigFrame.eval_func a'; clear hs hdep; generalize a'.eval = ev at *; go_simp
          · go_light; intro listed a' w' hs hS hun hdep
            have eg : a'.eval (.tmp 20) = .bool true := hs.eval 7 _ 20 rfl (hdep ⟨7, .guard⟩ (by simp) rfl) rfl
            have e21 : a'.eval (.tmp 21) = .int .i64 (-1) := hs.eval 8 _ 21 rfl (hdep ⟨8, .data⟩ (by simp) rfl) rfl
            refine g_val (.bool true) hS (wanted_yes rfl rfl rfl eg) ?_ rfl
            have hcn := BigFrame.eval_const a'; have hfn := BigFrame.eval_func a'; clear hs hdep; generalize a'.eval = ev at *; go_simp
          · go_light; intro listed a' w' hs hS hun hdep
            have eg : a'.eval (.tmp 20) = .bool true := hs.eval 7 _ 20 rfl (hdep ⟨7, .guard⟩ (by simp) rfl) rfl
            have e22 : a'.eval (.tmp 22) = .bool true := hs.eval 9 _ 22 rfl (hdep ⟨9, .data⟩ (by simp) rfl) rfl
            refine g_val (.bool true) hS (wanted_yes rfl rfl rfl eg) ?_ rfl
            have hcn := BigFrame.eval_const a'; have hfn := BigFrame.eval_func a'; clear hs hdep; generalize a'.eval = ev at *; go_simp
          · go_light; intro listed a' w' hs hS hun hdep
            have eg : a'.eval (.tmp 23) = .bool true := hs.eval 10 _ 23 rfl (hdep ⟨10, .guard⟩ (by simp) rfl) rfl
            exact g_not hS (wanted_no rfl rfl rfl eg (by decide)) rfl
          · go_light; intro listed a' w' hs hS hun hdep
            have eg : a'.eval (.tmp 23) = .bool true := hs.eval 10 _ 23 rfl (hdep ⟨10, .guard⟩ (by simp) rfl) rfl
            exact g_not hS (wanted_no rfl rfl rfl eg (by decide)) rfl
          · go_light; intro listed a' w' hs hS hun hdep
            have eg : a'.eval (.tmp 23) = .bool true := hs.eval 10 _ 23 rfl (hdep ⟨10, .guard⟩ (by simp) rfl) rfl
            exact g_not hS (wanted_no rfl rfl rfl eg (by decide)) rfl
          · go_light; intro listed a' w' hs hS hun hdep
            have eg : a'.eval (.tmp 23) = .bool true := hs.eval 10 _ 23 rfl (hdep ⟨10, .guard⟩ (by simp) rfl) rfl
            exact g_not hS (wanted_no rfl rfl rfl eg (by decide)) rfl
          · go_light; intro listed a' w' hs hS hun hdep
            have eg : a'.eval (.tmp 23) = .bool true := hs.eval 10 _ 23 rfl (hdep ⟨10, .guard⟩ (by simp) rfl) rfl
            exact g_not hS (wanted_no rfl rfl rfl eg (by decide)) rfl
          · go_light; intro listed a' w' hs hS hun hdep
            have eg : a'.eval (.tmp 23) = .bool true := hs.eval 10 _ 23 rfl (hdep ⟨10, .guard⟩ (by simp) rfl) rfl
            exact g_not hS (wanted_no rfl rfl rfl eg (by decide)) rfl
          · go_light; intro listed a' w' hs hS hun hdep
            have eg : a'.eval (.tmp 23) = .bool true := hs.eval 10 _ 23 rfl (hdep ⟨10, .guard⟩ (by simp) rfl) rfl
            exact g_not hS (wanted_no rfl rfl rfl eg (by decide)) rfl
          · go_light; intro listed a' w' hs hS hun hdep
            have eg : a'.eval (.tmp 23) = .bool true := hs.eval 10 _ 23 rfl (hdep ⟨10, .guard⟩ (by simp) rfl) rfl
            exact g_not hS (wanted_no rfl rfl rfl eg (by decide)) rfl
          · go_light; intro listed a' w' hs hS hun hdep
            have eg : a'.eval (.tmp 23) = .bool true := hs.eval 10 _ 23 rfl (hdep ⟨10, .guard⟩ (by simp) rfl) rfl
            exact g_not hS (wanted_no rfl rfl rfl eg (by decide)) rfl
          · go_light; intro listed a' w' hs hS hun hdep
            have eg : a'.eval (.tmp 23) = .bool true := hs.eval 10 _ 23 rfl (hdep ⟨10, .guard⟩ (by simp) rfl) rfl
            exact g_not hS (wanted_no rfl rfl rfl eg (by decide)) rfl
          · go_light; intro listed a' w' hs hS hun hdep
            have eg : a'.eval (.tmp 23) = .bool true := hs.eval 10 _ 23 rfl (hdep ⟨10, .guard⟩ (by simp) rfl) rfl
            exact g_not hS (wanted_no rfl rfl rfl eg (by decide)) rfl
          · go_light; intro listed a' w' hs hS hun hdep
            have eg : a'.eval (.tmp 23) = .bool true := hs.eval 10 _ 23 rfl (hdep ⟨10, .guard⟩ (by simp) rfl) rfl
            exact g_not hS (wanted_no rfl rfl rfl eg (by decide)) rfl
          · go_light; intro listed a' w' hs hS hun hdep
            have eg : a'.eval (.tmp 23) = .bool true := hs.eval 10 _ 23 rfl (hdep ⟨10, .guard⟩ (by simp) rfl) rfl
            exact g_not hS (wanted_no rfl rfl rfl eg (by decide)) rfl
          · go_light; intro listed a' w' hs hS hun hdep
            have eg : a'.eval (.tmp 20) = .bool true := hs.eval 7 _ 20 rfl (hdep ⟨7, .guard⟩ (by simp) rfl) rfl
            have e23 : a'.eval (.tmp 23) = .bool true := hs.eval 10 _ 23 rfl (hdep ⟨10, .data⟩ (by simp) rfl) rfl
            have e36 : a'.eval (.tmp 36) = undef := hs.eval 23 _ 36 rfl (hdep ⟨23, .data⟩ (by simp) rfl) rfl
            refine g_val (.bool true) hS (wanted_yes rfl rfl rfl eg) ?_ rfl
            have hcn := BigFrame.eval_const a'; have hfn := BigFrame.eval_func a'; clear hs hdep; generalize a'.eval = ev at *; go_simp
          · go_light; intro listed a' w' hs hS hun hdep
            have e20 : a'.eval (.tmp 20) = .bool true := hs.eval 7 _ 20 rfl (hdep ⟨7, .data⟩ (by simp) rfl) rfl
            have e37 : a'.eval (.tmp 37) = .bool true := hs.eval 24 _ 37 rfl (hdep ⟨24, .data⟩ (by simp) rfl) rfl
            refine g_val (.bool true) hS rfl ?_ rfl
            have hcn := BigFrame.eval_const a'; have hfn := BigFrame.eval_func a'; clear hs hdep; generalize a'.eval = ev at *; go_simp
          · intro vs w6 hlen hV listed hall hS
            obtain ⟨v0, v1, v2, v3, v4, v5, v6, v7, v8, v9, v10, v11, v12, v13, v14, v15, v16, v17, v18, v19, v20, v21, v22, v23, v24, v25, rfl⟩ := vs_26 vs (hlen.trans rfl)
            have q0 : v0 = .slice (some ⟨b, off, none⟩) l.length cap := hV 0 _ rfl
            have q1 : v1 = .int .i64 k := hV 1 _ rfl
            have q2 : v2 = .pointer (some ⟨b, off + k * 3, none⟩) := hV 2 _ rfl
            have q3 : v3 = .pointer (some ⟨b, off + k * 3, none⟩) := hV 3 _ rfl
            have q4 : v4 = .agg #[.int .u32 r2.a, .int .i64 r2.b] := hV 4 _ rfl
            have q5 : v5 = .int .u32 a := hV 5 _ rfl
            have q6 : v6 = .bool true := hV 6 _ rfl
            have q7 : v7 = .bool true := hV 7 _ rfl
            have q8 : v8 = .int .i64 (-1) := hV 8 _ rfl
            have q9 : v9 = .bool true := hV 9 _ rfl
            have q10 : v10 = .bool true := hV 10 _ rfl
            have q11 : v11 = undef := hV 11 _ rfl
            have q12 : v12 = undef := hV 12 _ rfl
            have q13 : v13 = undef := hV 13 _ rfl
            have q14 : v14 = undef := hV 14 _ rfl
            have q15 : v15 = undef := hV 15 _ rfl
            have q16 : v16 = undef := hV 16 _ rfl
            have q17 : v17 = undef := hV 17 _ rfl
            have q18 : v18 = undef := hV 18 _ rfl
            have q19 : v19 = undef := hV 19 _ rfl
            have q20 : v20 = undef := hV 20 _ rfl
            have q21 : v21 = undef := hV 21 _ rfl
            have q22 : v22 = undef := hV 22 _ rfl
            have q23 : v23 = undef := hV 23 _ rfl
            have q24 : v24 = .bool true := hV 24 _ rfl
            have q25 : v25 = .bool true := hV 25 _ rfl
            have hbel : Below wr.heap.size wr w6 := hS
            subst q0 q1 q2 q3 q4 q5 q6 q7 q8 q9 q10 q11 q12 q13 q14 q15 q16 q17 q18 q19 q20 q21 q22 q23 q24 q25
            clear hV hS hall hlen
            clear listed
            simp only [lays, Act.put, List.setIfInBounds_toArray, List.set_cons_zero, List.set_cons_succ]
            have hbw6 := hb.trans (hbel.mono hb.size)
            clear hb hbel c0 c1 c2
            go_wp2
            go_roundw
            case rel => exact ⟨k + 1, k, by omega, by go_num, by first | rfl | go_num, HN, hbw6⟩
            case measure => simp [intOf]; omega
        · obtain ⟨b', off', e', hcs'⟩ := HRow.out.at2 m (by omega)
          obtain ⟨rfl, rfl⟩ : b = b' ∧ off = off' := by simpa using e'
          obtain ⟨d0, d1, d2⟩ := hcs' wr hb
          have hml : (m : Int) < (l.length : Int) := by omega
          have hm0 : ¬ (m : Int) < 0 := by omega
          clear hcs' h1 h2 e'
          by_cases hgt : (l.getD m zR).b < (l.getD k zR).b
          · have HN := Lib.hid (R.IsBest.more hB.out hH hgt)
            generalize l.getD k zR = r2 at *
            generalize l.getD m zR = r3 at *
            clear hB
            go_wp2
            refine region_gen (VG wr.heap.size [.val (.slice (some ⟨b, off, none⟩) l.length cap), .val (.int .i64 k), .val (.pointer (some ⟨b, off + k * 3, none⟩)), .val (.pointer (some ⟨b, off + k * 3, none⟩)), .val (.agg #[.int .u32 r2.a, .int .i64 r2.b]), .val (.int .u32 a), .val (.bool true), .val (.bool true), .val (.int .i64 m), .val (.bool false), .val (.bool false), .val (.slice (some ⟨b, off, none⟩) l.length cap), .val (.int .i64 k), .val (.pointer (some ⟨b, off + k * 3, none⟩)), .val (.pointer (some ⟨b, off + k * 3, none⟩)), .val (.pointer (some ⟨b, off + k * 3 + 1, none⟩)), .val (.int .i64 r2.b), .val (.slice (some ⟨b, off, none⟩) l.length cap), .val (.int .i64 m), .val (.pointer (some ⟨b, off + m * 3, none⟩)), .val (.pointer (some ⟨b, off + m * 3, none⟩)), .val (.pointer (some ⟨b, off + m * 3 + 1, none⟩)), .val (.int .i64 r3.b), .val (.bool true), .val (.bool true), .val (.bool true)]) (BS wr) (by kernel_rfl) (by kernel_rfl) (Below.refl _ _).drew ⟨?_, ?_, ?_, ?_, ?_, ?_, ?_, ?_, ?_, ?_, ?_, ?_, ?_, ?_, ?_, ?_, ?_, ?_, ?_, ?_, ?_, ?_, ?_, ?_, ?_, ?_, trivial⟩ ?_
            · go_light; intro listed a' w' hs hS hun hdep
              have e0 : a'.eval (.tmp 0) = .slice (some ⟨b, off, none⟩) l.length cap := (hs.out 0 (by kernel_rfl)).trans (rfl)
              refine g_val (.slice (some ⟨b, off, none⟩) l.length cap) hS rfl ?_ rfl
              have hcn := BigFrame.eval_const a'; have hfn := BigFrame.eval_func a'; clear hs hdep; generalize a'.eval = ev at *; go_simp
            · go_light; intro listed a' w' hs hS hun hdep
              have e6 : a'.eval (.tmp 6) = .int .i64 k := (hs.out 6 (by kernel_rfl)).trans (rfl)
              refine g_val (.int .i64 k) hS rfl ?_ rfl
              have hcn := BigFrame.eval_const a'; have hfn := BigFrame.eval_func a'; clear hs hdep; generalize a'.eval = ev at *; go_simp
            · go_light; intro listed a' w' hs hS hun hdep
              have e13 : a'.eval (.tmp 13) = .slice (some ⟨b, off, none⟩) l.length cap := hs.eval 0 _ 13 rfl (hdep ⟨0, .data⟩ (by simp) rfl) rfl
              have e14 : a'.eval (.tmp 14) = .int .i64 k := hs.eval 1 _ 14 rfl (hdep ⟨1, .data⟩ (by simp) rfl) rfl
              refine g_val (.pointer (some ⟨b, off + k * 3, none⟩)) hS rfl ?_ rfl
              have hcn := BigFrame.eval_const a'; have hfn := BigFrame.eval_func a'; clear hs hdep; generalize a'.eval = ev at *; go_simp
            · go_light; intro listed a' w' hs hS hun hdep
              have e15 : a'.eval (.tmp 15) = .pointer (some ⟨b, off + k * 3, none⟩) := hs.eval 2 _ 15 rfl (hdep ⟨2, .data⟩ (by simp) rfl) rfl
              refine g_val (.pointer (some ⟨b, off + k * 3, none⟩)) hS rfl ?_ rfl
              have hcn := BigFrame.eval_const a'; have hfn := BigFrame.eval_func a'; clear hs hdep; generalize a'.eval = ev at *; go_simp
            · go_light; intro listed a' w' hs hS hun hdep
              have e16 : a'.eval (.tmp 16) = .pointer (some ⟨b, off + k * 3, none⟩) := hs.eval 3 _ 16 rfl (hdep ⟨3, .data⟩ (by simp) rfl) rfl
              have kk0 := cell_below hS c0; have kk1 := cell_below hS c1
              refine g_val (.agg #[.int .u32 r2.a, .int .i64 r2.b]) hS rfl ?_ rfl
              have hcn := BigFrame.eval_const a'; have hfn := BigFrame.eval_func a'; clear hs hdep; generalize a'.eval = ev at *; go_simp
            · go_light; intro listed a' w' hs hS hun hdep
              have e1 : a'.eval (.tmp 1) = .int .u32 a := (hs.out 1 (by kernel_rfl)).trans (rfl)
              refine g_val (.int .u32 a) hS rfl ?_ rfl
              have hcn := BigFrame.eval_const a'; have hfn := BigFrame.eval_func a'; clear hs hdep; generalize a'.eval = ev at *; go_simp
            · go_light; intro listed a' w' hs hS hun hdep
              have e17 : a'.eval (.tmp 17) = .agg #[.int .u32 r2.a, .int .i64 r2.b] := hs.eval 4 _ 17 rfl (hdep ⟨4, .data⟩ (by simp) rfl) rfl
              have e18 : a'.eval (.tmp 18) = .int .u32 a := hs.eval 5 _ 18 rfl (hdep ⟨5, .data⟩ (by simp) rfl) rfl
              refine g_call 26 #[.agg #[.int .u32 r2.a, .int .i64 r2.b], .int .u32 a] hS rfl ?_ ?_
              · have hcn := BigFrame.eval_const a'; have hfn := BigFrame.eval_func a'; clear hs hdep; generalize a'.eval = ev at *; go_simp
              · exact c_val (HHo.out w') rfl
            · go_light; intro listed a' w' hs hS hun hdep
              have e19 : a'.eval (.tmp 19) = .bool true := hs.eval 6 _ 19 rfl (hdep ⟨6, .data⟩ (by simp) rfl) rfl
              refine g_val (.bool true) hS rfl ?_ rfl
              have hcn := BigFrame.eval_const a'; have hfn := BigFrame.eval_func a'; clear hs hdep; generalize a'.eval = ev at *; go_simp
            · go_light; intro listed a' w' hs hS hun hdep
              have eg : a'.eval (.tmp 20) = .bool true := hs.eval 7 _ 20 rfl (hdep ⟨7, .guard⟩ (by simp) rfl) rfl
              have e5 : a'.eval (.tmp 5) = .int .i64 m := (hs.out 5 (by kernel_rfl)).trans (rfl)
              refine g_val (.int .i64 m) hS (wanted_yes rfl rfl rfl eg) ?_ rfl
              have hcn := BigFrame.eval_const a'; have hfn := BigFrame.eval_func a'; clear hs hdep; generalize a'.eval = ev at *; go_simp
            · go_light; intro listed a' w' hs hS hun hdep
              have eg : a'.eval (.tmp 20) = .bool true := hs.eval 7 _ 20 rfl (hdep ⟨7, .guard⟩ (by simp) rfl) rfl
              have e21 : a'.eval (.tmp 21) = .int .i64 m := hs.eval 8 _ 21 rfl (hdep ⟨8, .data⟩ (by simp) rfl) rfl
              refine g_val (.bool false) hS (wanted_yes rfl rfl rfl eg) ?_ rfl
              have hcn := BigFrame.eval_const a'; have hfn := BigFrame.eval_func a'; clear hs hdep; generalize a'.eval = ev at *; go_simp
            · go_light; intro listed a' w' hs hS hun hdep
              have eg : a'.eval (.tmp 20) = .bool true := hs.eval 7 _ 20 rfl (hdep ⟨7, .guard⟩ (by simp) rfl) rfl
              have e22 : a'.eval (.tmp 22) = .bool false := hs.eval 9 _ 22 rfl (hdep ⟨9, .data⟩ (by simp) rfl) rfl
              refine g_val (.bool false) hS (wanted_yes rfl rfl rfl eg) ?_ rfl
              have hcn := BigFrame.eval_const a'; have hfn := BigFrame.eval_func a'; clear hs hdep; generalize a'.eval = ev at *; go_simp
            · go_light; intro listed a' w' hs hS hun hdep
              have eg : a'.eval (.tmp 23) = .bool false := hs.eval 10 _ 23 rfl (hdep ⟨10, .guard⟩ (by simp) rfl) rfl
              have e0 : a'.eval (.tmp 0) = .slice (some ⟨b, off, none⟩) l.length cap := (hs.out 0 (by kernel_rfl)).trans (rfl)
              refine g_val (.slice (some ⟨b, off, none⟩) l.length cap) hS (wanted_yes rfl rfl rfl eg) ?_ rfl
              have hcn := BigFrame.eval_const a'; have hfn := BigFrame.eval_func a'; clear hs hdep; generalize a'.eval = ev at *; go_simp
            · go_light; intro listed a' w' hs hS hun hdep
              have eg : a'.eval (.tmp 23) = .bool false := hs.eval 10 _ 23 rfl (hdep ⟨10, .guard⟩ (by simp) rfl) rfl
              have e6 : a'.eval (.tmp 6) = .int .i64 k := (hs.out 6 (by kernel_rfl)).trans (rfl)
              refine g_val (.int .i64 k) hS (wanted_yes rfl rfl rfl eg) ?_ rfl
              have hcn := BigFrame.eval_const a'; have hfn := BigFrame.eval_func a'; clear hs hdep; generalize a'.eval = ev at *; go_simp
            · go_light; intro listed a' w' hs hS hun hdep
              have eg : a'.eval (.tmp 23) = .bool false := hs.eval 10 _ 23 rfl (hdep ⟨10, .guard⟩ (by simp) rfl) rfl
              have e24 : a'.eval (.tmp 24) = .slice (some ⟨b, off, none⟩) l.length cap := hs.eval 11 _ 24 rfl (hdep ⟨11, .data⟩ (by simp) rfl) rfl
              have e25 : a'.eval (.tmp 25) = .int .i64 k := hs.eval 12 _ 25 rfl (hdep ⟨12, .data⟩ (by simp) rfl) rfl
              refine g_val (.pointer (some ⟨b, off + k * 3, none⟩)) hS (wanted_yes rfl rfl rfl eg) ?_ rfl
              have hcn := BigFrame.eval_const a'; have hfn := BigFrame.eval_func a'; clear hs hdep; generalize a'.eval = ev at *; go_simp
            · go_light; intro listed a' w' hs hS hun hdep
              have eg : a'.eval (.tmp 23) = .bool false := hs.eval 10 _ 23 rfl (hdep ⟨10, .guard⟩ (by simp) rfl) rfl
              have e26 : a'.eval (.tmp 26) = .pointer (some ⟨b, off + k * 3, none⟩) := hs.eval 13 _ 26 rfl (hdep ⟨13, .data⟩ (by simp) rfl) rfl
              refine g_val (.pointer (some ⟨b, off + k * 3, none⟩)) hS (wanted_yes rfl rfl rfl eg) ?_ rfl
              have hcn := BigFrame.eval_const a'; have hfn := BigFrame.eval_func a'; clear hs hdep; generalize a'.eval = ev at *; go_simp
            · go_light; intro listed a' w' hs hS hun hdep
              have eg : a'.eval (.tmp 23) = .bool false := hs.eval 10 _ 23 rfl (hdep ⟨10, .guard⟩ (by simp) rfl) rfl
              have e27 : a'.eval (.tmp 27) = .pointer (some ⟨b, off + k * 3, none⟩) := hs.eval 14 _ 27 rfl (hdep ⟨14, .data⟩ (by simp) rfl) rfl
              refine g_val (.pointer (some ⟨b, off + k * 3 + 1, none⟩)) hS (wanted_yes rfl rfl rfl eg) ?_ rfl
              have hcn := BigFrame.eval_const a'; have hfn := BigFrame.eval_func a'; clear hs hdep; generalize a'.eval = ev at *; go_simp
            · go_light; intro listed a' w' hs hS hun hdep
              have eg : a'.eval (.tmp 23) = .bool false := hs.eval 10 _ 23 rfl (hdep ⟨10, .guard⟩ (by simp) rfl) rfl
              have e28 : a'.eval (.tmp 28) = .pointer (some ⟨b, off + k * 3 + 1, none⟩) := hs.eval 15 _ 28 rfl (hdep ⟨15, .data⟩ (by simp) rfl) rfl
              have kk0 := cell_below hS c0; have kk1 := cell_below hS c1
              refine g_val (.int .i64 r2.b) hS (wanted_yes rfl rfl rfl eg) ?_ rfl
              have hcn := BigFrame.eval_const a'; have hfn := BigFrame.eval_func a'; clear hs hdep; generalize a'.eval = ev at *; go_simp
            · go_light; intro listed a' w' hs hS hun hdep
              have eg : a'.eval (.tmp 23) = .bool false := hs.eval 10 _ 23 rfl (hdep ⟨10, .guard⟩ (by simp) rfl) rfl
              have e0 : a'.eval (.tmp 0) = .slice (some ⟨b, off, none⟩) l.length cap := (hs.out 0 (by kernel_rfl)).trans (rfl)
              refine g_val (.slice (some ⟨b, off, none⟩) l.length cap) hS (wanted_yes rfl rfl rfl eg) ?_ rfl
              have hcn := BigFrame.eval_const a'; have hfn := BigFrame.eval_func a'; clear hs hdep; generalize a'.eval = ev at *; go_simp
            · go_light; intro listed a' w' hs hS hun hdep
              have eg : a'.eval (.tmp 23) = .bool false := hs.eval 10 _ 23 rfl (hdep ⟨10, .guard⟩ (by simp) rfl) rfl
              have e5 : a'.eval (.tmp 5) = .int .i64 m := (hs.out 5 (by kernel_rfl)).trans (rfl)
              refine g_val (.int .i64 m) hS (wanted_yes rfl rfl rfl eg) ?_ rfl
              have hcn := BigFrame.eval_const a'; have hfn := BigFrame.eval_func a'; clear hs hdep; generalize a'.eval = ev at *; go_simp
            · go_light; intro listed a' w' hs hS hun hdep
              have eg : a'.eval (.tmp 23) = .bool false := hs.eval 10 _ 23 rfl (hdep ⟨10, .guard⟩ (by simp) rfl) rfl
              have e30 : a'.eval (.tmp 30) = .slice (some ⟨b, off, none⟩) l.length cap := hs.eval 17 _ 30 rfl (hdep ⟨17, .data⟩ (by simp) rfl) rfl
              have e31 : a'.eval (.tmp 31) = .int .i64 m := hs.eval 18 _ 31 rfl (hdep ⟨18, .data⟩ (by simp) rfl) rfl
              refine g_val (.pointer (some ⟨b, off + m * 3, none⟩)) hS (wanted_yes rfl rfl rfl eg) ?_ rfl
              have hcn := BigFrame.eval_const a'; have hfn := BigFrame.eval_func a'; clear hs hdep; generalize a'.eval = ev at *; go_simp
            · go_light; intro listed a' w' hs hS hun hdep
              have eg : a'.eval (.tmp 23) = .bool false := hs.eval 10 _ 23 rfl (hdep ⟨10, .guard⟩ (by simp) rfl) rfl
              have e32 : a'.eval (.tmp 32) = .pointer (some ⟨b, off + m * 3, none⟩) := hs.eval 19 _ 32 rfl (hdep ⟨19, .data⟩ (by simp) rfl) rfl
              refine g_val (.pointer (some ⟨b, off + m * 3, none⟩)) hS (wanted_yes rfl rfl rfl eg) ?_ rfl
              have hcn := BigFrame.eval_const a'; have hfn := BigFrame.eval_func a'; clear hs hdep; generalize a'.eval = ev at *; go_simp
            · go_light; intro listed a' w' hs hS hun hdep
              have eg : a'.eval (.tmp 23) = .bool false := hs.eval 10 _ 23 rfl (hdep ⟨10, .guard⟩ (by simp) rfl) rfl
              have e33 : a'.eval (.tmp 33) = .pointer (some ⟨b, off + m * 3, none⟩) := hs.eval 20 _ 33 rfl (hdep ⟨20, .data⟩ (by simp) rfl) rfl
              refine g_val (.pointer (some ⟨b, off + m * 3 + 1, none⟩)) hS (wanted_yes rfl rfl rfl eg) ?_ rfl
              have hcn := BigFrame.eval_const a'; have hfn := BigFrame.eval_func a'; clear hs hdep; generalize a'.eval = ev at *; go_simp
            · go_light; intro listed a' w' hs hS hun hdep
              have eg : a'.eval (.tmp 23) = .bool false := hs.eval 10 _ 23 rfl (hdep ⟨10, .guard⟩ (by simp) rfl) rfl
              have e34 : a'.eval (.tmp 34) = .pointer (some ⟨b, off + m * 3 + 1, none⟩) := hs.eval 21 _ 34 rfl (hdep ⟨21, .data⟩ (by simp) rfl) rfl
              have kk2 := cell_below hS d1
              refine g_val (.int .i64 r3.b) hS (wanted_yes rfl rfl rfl eg) ?_ rfl
              have hcn := BigFrame.eval_const a'; have hfn := BigFrame.eval_func a'; clear hs hdep; generalize a'.eval = ev at *; go_simp
            · go_light; intro listed a' w' hs hS hun hdep
              have eg : a'.eval (.tmp 23) = .bool false := hs.eval 10 _ 23 rfl (hdep ⟨10, .guard⟩ (by simp) rfl) rfl
              have e29 : a'.eval (.tmp 29) = .int .i64 r2.b := hs.eval 16 _ 29 rfl (hdep ⟨16, .data⟩ (by simp) rfl) rfl
              have e35 : a'.eval (.tmp 35) = .int .i64 r3.b := hs.eval 22 _ 35 rfl (hdep ⟨22, .data⟩ (by simp) rfl) rfl
              refine g_val (.bool true) hS (wanted_yes rfl rfl rfl eg) ?_ rfl
              have hcn := BigFrame.eval_const a'; have hfn := BigFrame.eval_func a'; clear hs hdep; generalize a'.eval = ev at *; go_simp
            · go_light; intro listed a' w' hs hS hun hdep
              have eg : a'.eval (.tmp 20) = .bool true := hs.eval 7 _ 20 rfl (hdep ⟨7, .guard⟩ (by simp) rfl) rfl
              have e23 : a'.eval (.tmp 23) = .bool false := hs.eval 10 _ 23 rfl (hdep ⟨10, .data⟩ (by simp) rfl) rfl
              have e36 : a'.eval (.tmp 36) = .bool true := hs.eval 23 _ 36 rfl (hdep ⟨23, .data⟩ (by simp) rfl) rfl
              refine g_val (.bool true) hS (wanted_yes rfl rfl rfl eg) ?_ rfl
              have hcn := BigFrame.eval_const a'; have hfn := BigFrame.eval_func a'; clear hs hdep; generalize a'.eval = ev at *; go_simp
            · go_light; intro listed a' w' hs hS hun hdep
              have e20 : a'.eval (.tmp 20) = .bool true := hs.eval 7 _ 20 rfl (hdep ⟨7, .data⟩ (by simp) rfl) rfl
              have e37 : a'.eval (.tmp 37) = .bool true := hs.eval 24 _ 37 rfl (hdep ⟨24, .data⟩ (by simp) rfl) rfl
              refine g_val (.bool true) hS rfl ?_ rfl
              have hcn := BigFrame.eval_const a'; have hfn := BigFrame.eval_func a'; clear hs hdep; generalize a'.eval = ev at *; go_simp
            · intro vs w6 hlen hV listed hall hS
              obtain ⟨v0, v1, v2, v3, v4, v5, v6, v7, v8, v9, v10, v11, v12, v13, v14, v15, v16, v17, v18, v19, v20, v21, v22, v23, v24, v25, rfl⟩ := vs_26 vs (hlen.trans rfl)
              have q0 : v0 = .slice (some ⟨b, off, none⟩) l.length cap := hV 0 _ rfl
              have q1 : v1 = .int .i64 k := hV 1 _ rfl
              have q2 : v2 = .pointer (some ⟨b, off + k * 3, none⟩) := hV 2 _ rfl
              have q3 : v3 = .pointer (some ⟨b, off + k * 3, none⟩) := hV 3 _ rfl
              have q4 : v4 = .agg #[.int .u32 r2.a, .int .i64 r2.b] := hV 4 _ rfl
              have q5 : v5 = .int .u32 a := hV 5 _ rfl
              have q6 : v6 = .bool true := hV 6 _ rfl
              have q7 : v7 = .bool true := hV 7 _ rfl
              have q8 : v8 = .int .i64 m := hV 8 _ rfl
              have q9 : v9 = .bool false := hV 9 _ rfl
              have q10 : v10 = .bool false := hV 10 _ rfl
              have q11 : v11 = .slice (some ⟨b, off, none⟩) l.length cap := hV 11 _ rfl
              have q12 : v12 = .int .i64 k := hV 12 _ rfl
              have q13 : v13 = .pointer (some ⟨b, off + k * 3, none⟩) := hV 13 _ rfl
              have q14 : v14 = .pointer (some ⟨b, off + k * 3, none⟩) := hV 14 _ rfl
              have q15 : v15 = .pointer (some ⟨b, off + k * 3 + 1, none⟩) := hV 15 _ rfl
              have q16 : v16 = .int .i64 r2.b := hV 16 _ rfl
              have q17 : v17 = .slice (some ⟨b, off, none⟩) l.length cap := hV 17 _ rfl
              have q18 : v18 = .int .i64 m := hV 18 _ rfl
              have q19 : v19 = .pointer (some ⟨b, off + m * 3, none⟩) := hV 19 _ rfl
              have q20 : v20 = .pointer (some ⟨b, off + m * 3, none⟩) := hV 20 _ rfl
              have q21 : v21 = .pointer (some ⟨b, off + m * 3 + 1, none⟩) := hV 21 _ rfl
              have q22 : v22 = .int .i64 r3.b := hV 22 _ rfl
              have q23 : v23 = .bool true := hV 23 _ rfl
              have q24 : v24 = .bool true := hV 24 _ rfl
              have q25 : v25 = .bool true := hV 25 _ rfl
              have hbel : Below wr.heap.size wr w6 := hS
              subst q0 q1 q2 q3 q4 q5 q6 q7 q8 q9 q10 q11 q12 q13 q14 q15 q16 q17 q18 q19 q20 q21 q22 q23 q24 q25
              clear hV hS hall hlen
              clear listed
              simp only [lays, Act.put, List.setIfInBounds_toArray, List.set_cons_zero, List.set_cons_succ]
              have hbw6 := hb.trans (hbel.mono hb.size)
              clear hb hbel c0 c1 c2 d0 d1 d2
              go_wp2
              go_roundw
              case rel => exact ⟨k + 1, k, by omega, by go_num, by first | rfl | go_num, HN, hbw6⟩
              case measure => simp [intOf]; omega
          · have HN := Lib.hid (R.IsBest.less hB.out hgt)
            generalize l.getD k zR = r2 at *
            generalize l.getD m zR = r3 at *
            clear hB
            go_wp2
            refine region_gen (VG wr.heap.size [.val (.slice (some ⟨b, off, none⟩) l.length cap), .val (.int .i64 k), .val (.pointer (some ⟨b, off + k * 3, none⟩)), .val (.pointer (some ⟨b, off + k * 3, none⟩)), .val (.agg #[.int .u32 r2.a, .int .i64 r2.b]), .val (.int .u32 a), .val (.bool true), .val (.bool true), .val (.int .i64 m), .val (.bool false), .val (.bool false), .val (.slice (some ⟨b, off, none⟩) l.length cap), .val (.int .i64 k), .val (.pointer (some ⟨b, off + k * 3, none⟩)), .val (.pointer (some ⟨b, off + k * 3, none⟩)), .val (.pointer (some ⟨b, off + k * 3 + 1, none⟩)), .val (.int .i64 r2.b), .val (.slice (some ⟨b, off, none⟩) l.length cap), .val (.int .i64 m), .val (.pointer (some ⟨b, off + m * 3, none⟩)), .val (.pointer (some ⟨b, off + m * 3, none⟩)), .val (.pointer (some ⟨b, off + m * 3 + 1, none⟩)), .val (.int .i64 r3.b), .val (.bool false), .val (.bool false), .val (.bool false)]) (BS wr) (by kernel_rfl) (by kernel_rfl) (Below.refl _ _).drew ⟨?_, ?_, ?_, ?_, ?_, ?_, ?_, ?_, ?_, ?_, ?_, ?_, ?_, ?_, ?_, ?_, ?_, ?_, ?_, ?_, ?_, ?_, ?_, ?_, ?_, ?_, trivial⟩ ?_
            · go_light; intro listed a' w' hs hS hun hdep
              have e0 : a'.eval (.tmp 0) = .slice (some ⟨b, off, none⟩) l.length cap := (hs.out 0 (by kernel_rfl)).trans (rfl)
              refine g_val (.slice (some ⟨b, off, none⟩) l.length cap) hS rfl ?_ rfl
              have hcn := BigFrame.eval_const a'; have hfn := BigFrame.eval_func a'; clear hs hdep; generalize a'.eval = ev at *; go_simp
            · go_light; intro listed a' w' hs hS hun hdep
              have e6 : a'.eval (.tmp 6) = .int .i64 k := (hs.out 6 (by kernel_rfl)).trans (rfl)
              refine g_val (.int .i64 k) hS rfl ?_ rfl
              have hcn := BigFrame.eval_const a'; have hfn := BigFrame.eval_func a'; clear hs hdep; generalize a'.eval = ev at *; go_simp
            · go_light; intro listed a' w' hs hS hun hdep
              have e13 : a'.eval (.tmp 13) = .slice (some ⟨b, off, none⟩) l.length cap := hs.eval 0 _ 13 rfl (hdep ⟨0, .data⟩ (by simp) rfl) rfl
              have e14 : a'.eval (.tmp 14) = .int .i64 k := hs.eval 1 _ 14 rfl (hdep ⟨1, .data⟩ (by simp) rfl) rfl
              refine g_val (.pointer (some ⟨b, off + k * 3, none⟩)) hS rfl ?_ rfl
              have hcn := BigFrame.eval_const a'; have hfn := BigFrame.eval_func a'; clear hs hdep; generalize a'.eval = ev at *; go_simp
            · go_light; intro listed a' w' hs hS hun hdep
              have e15 : a'.eval (.tmp 15) = .pointer (some ⟨b, off + k * 3, none⟩) := hs.eval 2 _ 15 rfl (hdep ⟨2, .data⟩ (by simp) rfl) rfl
              refine g_val (.pointer (some ⟨b, off + k * 3, none⟩)) hS rfl ?_ rfl
              have hcn := BigFrame.eval_const a'; have hfn := BigFrame.eval_func a'; clear hs hdep; generalize a'.eval = ev at *; go_simp
            · go_light; intro listed a' w' hs hS hun hdep
              have e16 : a'.eval (.tmp 16) = .pointer (some ⟨b, off + k * 3, none⟩) := hs.eval 3 _ 16 rfl (hdep ⟨3, .data⟩ (by simp) rfl) rfl
              have kk0 := cell_below hS c0; have kk1 := cell_below hS c1
              refine g_val (.agg #[.int .u32 r2.a, .int .i64 r2.b]) hS rfl ?_ rfl
              have hcn := BigFrame.eval_const a'; have hfn := BigFrame.eval_func a'; clear hs hdep; generalize a'.eval = ev at *; go_simp
            · go_light; intro listed a' w' hs hS hun hdep
              have e1 : a'.eval (.tmp 1) = .int .u32 a := (hs.out 1 (by kernel_rfl)).trans (rfl)
              refine g_val (.int .u32 a) hS rfl ?_ rfl
              have hcn := BigFrame.eval_const a'; have hfn := BigFrame.eval_func a'; clear hs hdep; generalize a'.eval = ev at *; go_simp
            · go_light; intro listed a' w' hs hS hun hdep
              have e17 : a'.eval (.tmp 17) = .agg #[.int .u32 r2.a, .int .i64 r2.b] := hs.eval 4 _ 17 rfl (hdep ⟨4, .data⟩ (by simp) rfl) rfl
              have e18 : a'.eval (.tmp 18) = .int .u32 a := hs.eval 5 _ 18 rfl (hdep ⟨5, .data⟩ (by simp) rfl) rfl
              refine g_call 26 #[.agg #[.int .u32 r2.a, .int .i64 r2.b], .int .u32 a] hS rfl ?_ ?_
              · have hcn := BigFrame.eval_const a'; have hfn := BigFrame.eval_func a'; clear hs hdep; generalize a'.eval = ev at *; go_simp
              · exact c_val (HHo.out w') rfl
            · go_light; intro listed a' w' hs hS hun hdep
              have e19 : a'.eval (.tmp 19) = .bool true := hs.eval 6 _ 19 rfl (hdep ⟨6, .data⟩ (by simp) rfl) rfl
              refine g_val (.bool true) hS rfl ?_ rfl
              have hcn := BigFrame.eval_const a'; have hfn := BigFrame.eval_func a'; clear hs hdep; generalize a'.eval = ev at *; go_simp
            · go_light; intro listed a' w' hs hS hun hdep
              have eg : a'.eval (.tmp 20) = .bool true := hs.eval 7 _ 20 rfl (hdep ⟨7, .guard⟩ (by simp) rfl) rfl
              have e5 : a'.eval (.tmp 5) = .int .i64 m := (hs.out 5 (by kernel_rfl)).trans (rfl)
              refine g_val (.int .i64 m) hS (wanted_yes rfl rfl rfl eg) ?_ rfl
              have hcn := BigFrame.eval_const a'; have hfn := BigFrame.eval_func a'; clear hs hdep; generalize a'.eval = ev at *; go_simp
            · go_light; intro listed a' w' hs hS hun hdep
              have eg : a'.eval (.tmp 20) = .bool true := hs.eval 7 _ 20 rfl (hdep ⟨7, .guard⟩ (by simp) rfl) rfl
              have e21 : a'.eval (.tmp 21) = .int .i64 m := hs.eval 8 _ 21 rfl (hdep ⟨8, .data⟩ (by simp) rfl) rfl
              refine g_val (.bool false) hS (wanted_yes rfl rfl rfl eg) ?_ rfl
              have hcn := BigFrame.eval_const a'; have hfn := BigFrame.eval_func a'; clear hs hdep; generalize a'.eval = ev at *; go_simp
            · go_light; intro listed a' w' hs hS hun hdep
              have eg : a'.eval (.tmp 20) = .bool true := hs.eval 7 _ 20 rfl (hdep ⟨7, .guard⟩ (by simp) rfl) rfl
              have e22 : a'.eval (.tmp 22) = .bool false := hs.eval 9 _ 22 rfl (hdep ⟨9, .data⟩ (by simp) rfl) rfl
              refine g_val (.bool false) hS (wanted_yes rfl rfl rfl eg) ?_ rfl
              have hcn := BigFrame.eval_const a'; have hfn := BigFrame.eval_func a'; clear hs hdep; generalize a'.eval = ev at *; go_simp
            · go_light; intro listed a' w' hs hS hun hdep
              have eg : a'.eval (.tmp 23) = .bool false := hs.eval 10 _ 23 rfl (hdep ⟨10, .guard⟩ (by simp) rfl) rfl
              have e0 : a'.eval (.tmp 0) = .slice (some ⟨b, off, none⟩) l.length cap := (hs.out 0 (by kernel_rfl)).trans (rfl)
              refine g_val (.slice (some ⟨b, off, none⟩) l.length cap) hS (wanted_yes rfl rfl rfl eg) ?_ rfl
              have hcn := BigFrame.eval_const a'; have hfn := BigFrame.eval_func a'; clear hs hdep; generalize a'.eval = ev at *; go_simp
            · go_light; intro listed a' w' hs hS hun hdep
              have eg : a'.eval (.tmp 23) = .bool false := hs.eval 10 _ 23 rfl (hdep ⟨10, .guard⟩ (by simp) rfl) rfl
              have e6 : a'.eval (.tmp 6) = .int .i64 k := (hs.out 6 (by kernel_rfl)).trans (rfl)
              refine g_val (.int .i64 k) hS (wanted_yes rfl rfl rfl eg) ?_ rfl
              have hcn := BigFrame.eval_const a'; have hfn := BigFrame.eval_func a'; clear hs hdep; generalize a'.eval = ev at *; go_simp
            · go_light; intro listed a' w' hs hS hun hdep
              have eg : a'.eval (.tmp 23) = .bool false := hs.eval 10 _ 23 rfl (hdep ⟨10, .guard⟩ (by simp) rfl) rfl
              have e24 : a'.eval (.tmp 24) = .slice (some ⟨b, off, none⟩) l.length cap := hs.eval 11 _ 24 rfl (hdep ⟨11, .data⟩ (by simp) rfl) rfl
              have e25 : a'.eval (.tmp 25) = .int .i64 k := hs.eval 12 _ 25 rfl (hdep ⟨12, .data⟩ (by simp) rfl) rfl
              refine g_val (.pointer (some ⟨b, off + k * 3, none⟩)) hS (wanted_yes rfl rfl rfl eg) ?_ rfl
              have hcn := BigFrame.eval_const a'; have hfn := BigFrame.eval_func a'; clear hs hdep; generalize a'.eval = ev at *; go_simp
            · go_light; intro listed a' w' hs hS hun hdep
              have eg : a'.eval (.tmp 23) = .bool false := hs.eval 10 _ 23 rfl (hdep ⟨10, .guard⟩ (by simp) rfl) rfl
              have e26 : a'.eval (.tmp 26) = .pointer (some ⟨b, off + k * 3, none⟩) := hs.eval 13 _ 26 rfl (hdep ⟨13, .data⟩ (by simp) rfl) rfl
              refine g_val (.pointer (some ⟨b, off + k * 3, none⟩)) hS (wanted_yes rfl rfl rfl eg) ?_ rfl
              have hcn := BigFrame.eval_const a'; have hfn := BigFrame.eval_func a'; clear hs hdep; generalize a'.eval = ev at *; go_simp
            · go_light; intro listed a' w' hs hS hun hdep
              have eg : a'.eval (.tmp 23) = .bool false := hs.eval 10 _ 23 rfl (hdep ⟨10, .guard⟩ (by simp) rfl) rfl
              have e27 : a'.eval (.tmp 27) = .pointer (some ⟨b, off + k * 3, none⟩) := hs.eval 14 _ 27 rfl (hdep ⟨14, .data⟩ (by simp) rfl) rfl
              refine g_val (.pointer (some ⟨b, off + k * 3 + 1, none⟩)) hS (wanted_yes rfl rfl rfl eg) ?_ rfl
              have hcn := BigFrame.eval_const a'; have hfn := BigFrame.eval_func a'; clear hs hdep; generalize a'.eval = ev at *; go_simp
            · go_light; intro listed a' w' hs hS hun hdep
              have eg : a'.eval (.tmp 23) = .bool false := hs.eval 10 _ 23 rfl (hdep ⟨10, .guard⟩ (by simp) rfl) rfl
              have e28 : a'.eval (.tmp 28) = .pointer (some ⟨b, off + k * 3 + 1, none⟩) := hs.eval 15 _ 28 rfl (hdep ⟨15, .data⟩ (by simp) rfl) rfl
              have kk0 := cell_below hS c0; have kk1 := cell_below hS c1
              refine g_val (.int .i64 r2.b) hS (wanted_yes rfl rfl rfl eg) ?_ rfl
              have hcn := BigFrame.eval_const a'; have hfn := BigFrame.eval_func a'; clear hs hdep; generalize a'.eval = ev at *; go_simp
            · go_light; intro listed a' w' hs hS hun hdep
              have eg : a'.eval (.tmp 23) = .bool false := hs.eval 10 _ 23 rfl (hdep ⟨10, .guard⟩ (by simp) rfl) rfl
              have e0 : a'.eval (.tmp 0) = .slice (some ⟨b, off, none⟩) l.length cap := (hs.out 0 (by kernel_rfl)).trans (rfl)
              refine g_val (.slice (some ⟨b, off, none⟩) l.length cap) hS (wanted_yes rfl rfl rfl eg) ?_ rfl
              have hcn := BigFrame.eval_const a'; have hfn := BigFrame.eval_func a'; clear hs hdep; generalize a'.eval = ev at *; go_simp
            · go_light; intro listed a' w' hs hS hun hdep
              have eg : a'.eval (.tmp 23) = .bool false := hs.eval 10 _ 23 rfl (hdep ⟨10, .guard⟩ (by simp) rfl) rfl
              have e5 : a'.eval (.tmp 5) = .int .i64 m := (hs.out 5 (by kernel_rfl)).trans (rfl)
              refine g_val (.int .i64 m) hS (wanted_yes rfl rfl rfl eg) ?_ rfl
              have hcn := BigFrame.eval_const a'; have hfn := BigFrame.eval_func a'; clear hs hdep; generalize a'.eval = ev at *; go_simp
            · go_light; intro listed a' w' hs hS hun hdep
              have eg : a'.eval (.tmp 23) = .bool false := hs.eval 10 _ 23 rfl (hdep ⟨10, .guard⟩ (by simp) rfl) rfl
              have e30 : a'.eval (.tmp 30) = .slice (some ⟨b, off, none⟩) l.length cap := hs.eval 17 _ 30 rfl (hdep ⟨17, .data⟩ (by simp) rfl) rfl
              have e31 : a'.eval (.tmp 31) = .int .i64 m := hs.eval 18 _ 31 rfl (hdep ⟨18, .data⟩ (by simp) rfl) rfl
              refine g_val (.pointer (some ⟨b, off + m * 3, none⟩)) hS (wanted_yes rfl rfl rfl eg) ?_ rfl
              have hcn := BigFrame.eval_const a'; have hfn := BigFrame.eval_func a'; clear hs hdep; generalize a'.eval = ev at *; go_simp
            · go_light; intro listed a' w' hs hS hun hdep
              have eg : a'.eval (.tmp 23) = .bool false := hs.eval 10 _ 23 rfl (hdep ⟨10, .guard⟩ (by simp) rfl) rfl
              have e32 : a'.eval (.tmp 32) = .pointer (some ⟨b, off + m * 3, none⟩) := hs.eval 19 _ 32 rfl (hdep ⟨19, .data⟩ (by simp) rfl) rfl
              refine g_val (.pointer (some ⟨b, off + m * 3, none⟩)) hS (wanted_yes rfl rfl rfl eg) ?_ rfl
              have hcn := BigFrame.eval_const a'; have hfn := BigFrame.eval_func a'; clear hs hdep; generalize a'.eval = ev at *; go_simp
            · go_light; intro listed a' w' hs hS hun hdep
              have eg : a'.eval (.tmp 23) = .bool false := hs.eval 10 _ 23 rfl (hdep ⟨10, .guard⟩ (by simp) rfl) rfl
              have e33 : a'.eval (.tmp 33) = .pointer (some ⟨b, off + m * 3, none⟩) := hs.eval 20 _ 33 rfl (hdep ⟨20, .data⟩ (by simp) rfl) rfl
              refine g_val (.pointer (some ⟨b, off + m * 3 + 1, none⟩)) hS (wanted_yes rfl rfl rfl eg) ?_ rfl
              have hcn := BigFrame.eval_const a'; have hfn := BigFrame.eval_func a'; clear hs hdep; generalize a'.eval = ev at *; go_simp
            · go_light; intro listed a' w' hs hS hun hdep
              have eg : a'.eval (.tmp 23) = .bool false := hs.eval 10 _ 23 rfl (hdep ⟨10, .guard⟩ (by simp) rfl) rfl
              have e34 : a'.eval (.tmp 34) = .pointer (some ⟨b, off + m * 3 + 1, none⟩) := hs.eval 21 _ 34 rfl (hdep ⟨21, .data⟩ (by simp) rfl) rfl
              have kk2 := cell_below hS d1
              refine g_val (.int .i64 r3.b) hS (wanted_yes rfl rfl rfl eg) ?_ rfl
              have hcn := BigFrame.eval_const a'; have hfn := BigFrame.eval_func a'; clear hs hdep; generalize a'.eval = ev at *; go_simp
            · go_light; intro listed a' w' hs hS hun hdep
              have eg : a'.eval (.tmp 23) = .bool false := hs.eval 10 _ 23 rfl (hdep ⟨10, .guard⟩ (by simp) rfl) rfl
              have e29 : a'.eval (.tmp 29) = .int .i64 r2.b := hs.eval 16 _ 29 rfl (hdep ⟨16, .data⟩ (by simp) rfl) rfl
              have e35 : a'.eval (.tmp 35) = .int .i64 r3.b := hs.eval 22 _ 35 rfl (hdep ⟨22, .data⟩ (by simp) rfl) rfl
              refine g_val (.bool false) hS (wanted_yes rfl rfl rfl eg) ?_ rfl
              have hcn := BigFrame.eval_const a'; have hfn := BigFrame.eval_func a'; clear hs hdep; generalize a'.eval = ev at *; go_simp
            · go_light; intro listed a' w' hs hS hun hdep
              have eg : a'.eval (.tmp 20) = .bool true := hs.eval 7 _ 20 rfl (hdep ⟨7, .guard⟩ (by simp) rfl) rfl
              have e23 : a'.eval (.tmp 23) = .bool false := hs.eval 10 _ 23 rfl (hdep ⟨10, .data⟩ (by simp) rfl) rfl
              have e36 : a'.eval (.tmp 36) = .bool false := hs.eval 23 _ 36 rfl (hdep ⟨23, .data⟩ (by simp) rfl) rfl
              refine g_val (.bool false) hS (wanted_yes rfl rfl rfl eg) ?_ rfl
              have hcn := BigFrame.eval_const a'; have hfn := BigFrame.eval_func a'; clear hs hdep; generalize a'.eval = ev at *; go_simp
            · go_light; intro listed a' w' hs hS hun hdep
              have e20 : a'.eval (.tmp 20) = .bool true := hs.eval 7 _ 20 rfl (hdep ⟨7, .data⟩ (by simp) rfl) rfl
              have e37 : a'.eval (.tmp 37) = .bool false := hs.eval 24 _ 37 rfl (hdep ⟨24, .data⟩ (by simp) rfl) rfl
              refine g_val (.bool false) hS rfl ?_ rfl
              have hcn := BigFrame.eval_const a'; have hfn := BigFrame.eval_func a'; clear hs hdep; generalize a'.eval = ev at *; go_simp
            · intro vs w6 hlen hV listed hall hS
              obtain ⟨v0, v1, v2, v3, v4, v5, v6, v7, v8, v9, v10, v11, v12, v13, v14, v15, v16, v17, v18, v19, v20, v21, v22, v23, v24, v25, rfl⟩ := vs_26 vs (hlen.trans rfl)
              have q0 : v0 = .slice (some ⟨b, off, none⟩) l.length cap := hV 0 _ rfl
              have q1 : v1 = .int .i64 k := hV 1 _ rfl
              have q2 : v2 = .pointer (some ⟨b, off + k * 3, none⟩) := hV 2 _ rfl
              have q3 : v3 = .pointer (some ⟨b, off + k * 3, none⟩) := hV 3 _ rfl
              have q4 : v4 = .agg #[.int .u32 r2.a, .int .i64 r2.b] := hV 4 _ rfl
              have q5 : v5 = .int .u32 a := hV 5 _ rfl
              have q6 : v6 = .bool true := hV 6 _ rfl
              have q7 : v7 = .bool true := hV 7 _ rfl
              have q8 : v8 = .int .i64 m := hV 8 _ rfl
              have q9 : v9 = .bool false := hV 9 _ rfl
              have q10 : v10 = .bool false := hV 10 _ rfl
              have q11 : v11 = .slice (some ⟨b, off, none⟩) l.length cap := hV 11 _ rfl
              have q12 : v12 = .int .i64 k := hV 12 _ rfl
              have q13 : v13 = .pointer (some ⟨b, off + k * 3, none⟩) := hV 13 _ rfl
              have q14 : v14 = .pointer (some ⟨b, off + k * 3, none⟩) := hV 14 _ rfl
              have q15 : v15 = .pointer (some ⟨b, off + k * 3 + 1, none⟩) := hV 15 _ rfl
              have q16 : v16 = .int .i64 r2.b := hV 16 _ rfl
              have q17 : v17 = .slice (some ⟨b, off, none⟩) l.length cap := hV 17 _ rfl
              have q18 : v18 = .int .i64 m := hV 18 _ rfl
              have q19 : v19 = .pointer (some ⟨b, off + m * 3, none⟩) := hV 19 _ rfl
              have q20 : v20 = .pointer (some ⟨b, off + m * 3, none⟩) := hV 20 _ rfl
              have q21 : v21 = .pointer (some ⟨b, off + m * 3 + 1, none⟩) := hV 21 _ rfl
              have q22 : v22 = .int .i64 r3.b := hV 22 _ rfl
              have q23 : v23 = .bool false := hV 23 _ rfl
              have q24 : v24 = .bool false := hV 24 _ rfl
              have q25 : v25 = .bool false := hV 25 _ rfl
              have hbel : Below wr.heap.size wr w6 := hS
              subst q0 q1 q2 q3 q4 q5 q6 q7 q8 q9 q10 q11 q12 q13 q14 q15 q16 q17 q18 q19 q20 q21 q22 q23 q24 q25
              clear hV hS hall hlen
              clear listed
              simp only [lays, Act.put, List.setIfInBounds_toArray, List.set_cons_zero, List.set_cons_succ]
              have hbw6 := hb.trans (hbel.mono hb.size)
              clear hb hbel c0 c1 c2 d0 d1 d2
              go_wp2
              go_roundw
              case rel => exact ⟨k + 1, m, by omega, by go_num, by first | rfl | go_num, HN, hbw6⟩
              case measure => simp [intOf]; omega
    · obtain rfl : k = l.length := by omega
      have hkl2 : ¬ (l.length : Int) < (l.length : Int) := by omega
      go_wp2
      go_ret
      exact ⟨z, rfl, hB.out, hb⟩
#print axioms RFind_any
end Go.Proofs.Ytpepjmcglglepaa
