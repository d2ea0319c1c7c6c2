/- TriePrefers, walked whole. -/
import Derived.Test.YtepjefgbbobphaaTrAwake
import Derived.Test.YtepjefgbbobphaaTrOpen
namespace Go.Proofs.Ytepjefgbbobphaa
open Go.RowKit
set_option maxRecDepth 100000
set_option linter.unusedVariables false
open R

/-- What the law made: a trie in blocks of its own. -/
abbrev Mine (w w' : World) : Nat → Prop := fun k => w.heap.size ≤ k ∧ k < w'.heap.size
theorem TrieAt.mono {X Y : Nat → Prop} {w : World} {g : Nat} {st : St} (h : TrieAt X w g st) (hXY : ∀ k, X k → Y k) : TrieAt Y w g st := by
  obtain ⟨t, h1, h2, h3⟩ := h
  exact ⟨t, h1, hXY _ h2, h3.mono fun k hk => ⟨hXY k hk.1, hk.2⟩⟩
theorem TrieAt.up {w w1 w2 : World} {g : Nat} {st : St} (h : TrieAt (Up (Mine w w1) w1 w2) w2 g st) (h1 : w.heap.size ≤ w1.heap.size) (h2 : w1.heap.size ≤ w2.heap.size) : TrieAt (Mine w w2) w2 g st := h.mono fun k hk => by
  rcases hk with hk | hk
  · exact ⟨hk.1, by omega⟩
  · exact ⟨by omega, hk.2⟩
theorem TrieAt.more {w w1 w2 : World} {g : Nat} {st : St} (h : TrieAt (Mine w w1) w1 g st) (hb : Below w1.heap.size w1 w2) : TrieAt (Mine w w2) w2 g st := (h.below hb).mono fun k hk => ⟨hk.1, Nat.lt_of_lt_of_le hk.2 hb.size⟩
theorem RtRow.at {w : World} {ao : Option Addr} {l : List Rt} (h : RtRow w ao l) (k : Nat) (hk : k < l.length) : ∃ b off, ao = some ⟨b, off, none⟩ ∧ w.cell? ⟨b, off + k * 3, none⟩ = some (.int .u32 (l.getD k zR).a) ∧ w.cell? ⟨b, off + k * 3 + 1, none⟩ = some (.int .i64 (l.getD k zR).b) ∧ w.cell? ⟨b, off + k * 3 + 2, none⟩ = some (.int .i64 (l.getD k zR).o) := by
  obtain ⟨b, off, h1, h2, h3⟩ := h (by omega)
  exact ⟨b, off, h1, h3 k hk 0 _ rfl, h3 k hk 1 _ rfl, h3 k hk 2 _ rfl⟩
theorem getD_mem (l : List Rt) (k : Nat) (h : k < l.length) : l.getD k zR ∈ l := by
  rw [List.getD_eq_getElem?_getD, List.getElem?_eq_getElem h]
  exact List.getElem_mem h

namespace R
/-- Of the first k routes each right prefix is there. -/
def Cov (l : List Rt) (rs : List Rt) (k : Nat) : Prop := ∀ j, j < k → A.right (l.getD j zR).a (l.getD j zR).b = true → ∃ s ∈ rs, s.a = (l.getD j zR).a ∧ s.b = (l.getD j zR).b
theorem Cov.more {l rs : List Rt} {k : Nat} (h : Cov l rs k) (hf : rs.length < 256) : Cov l (if addE rs (l.getD k zR) = 0 then rs ++ [l.getD k zR] else rs) (k + 1) := by
  intro j hj hr
  by_cases e : j = k
  · subst e
    by_cases h0 : addE rs (l.getD j zR) = 0
    · rw [if_pos h0]
      exact ⟨l.getD j zR, by simp, rfl, rfl⟩
    · rw [if_neg h0]
      unfold addE at h0
      rw [if_neg (by rw [hr]; simp)] at h0
      by_cases h7 : R.has rs (l.getD j zR).a (l.getD j zR).b = true
      · exact has_iff.1 h7
      · rw [if_neg h7, if_neg (by omega)] at h0
        exact absurd rfl h0
  · obtain ⟨s, h1, h2⟩ := h j (by omega) hr
    refine ⟨s, ?_, h2⟩
    split
    · exact List.mem_append_left _ h1
    · exact h1
theorem add_len (rs : List Rt) (r : Rt) : (if addE rs r = 0 then rs ++ [r] else rs).length ≤ rs.length + 1 := by split <;> simp
theorem holds_right {p : Nat} {b : Int} {a : Nat} (h : A.holds p b a = true) : A.right p b = true := by
  unfold A.holds at h
  simp only [Bool.and_eq_true] at h
  exact h.1
theorem prefer {l rs : List Rt} {a : Nat} {r : Rt} {ok : Bool} (hc : Cov l rs l.length) (hf : IsFind rs a r ok) (k : Nat) (hk : k < l.length) (hh : A.holds (l.getD k zR).a (l.getD k zR).b a = true) : ok = true ∧ (l.getD k zR).b ≤ r.b := by
  obtain ⟨s, h1, h2, h3⟩ := hc k hk (holds_right hh)
  rw [← h2, ← h3] at hh
  cases ok
  · have := (hf.no rfl).2 s h1
    rw [hh] at this
    cases this
  · obtain ⟨_, _, h4⟩ := hf.yes rfl
    have := h4 s h1 hh
    exact ⟨rfl, by omega⟩
end R

theorem vs_23 (vs : List Value) (h : vs.length = 23) : ∃ v0 v1 v2 v3 v4 v5 v6 v7 v8 v9 v10 v11 v12 v13 v14 v15 v16 v17 v18 v19 v20 v21 v22, vs = [v0, v1, v2, v3, v4, v5, v6, v7, v8, v9, v10, v11, v12, v13, v14, v15, v16, v17, v18, v19, v20, v21, v22] := by
  obtain ⟨v0, r0, rfl, h0⟩ := vs_cons vs h
  obtain ⟨v1, r1, rfl, h1⟩ := vs_cons r0 h0
  obtain ⟨v2, r2, rfl, h2⟩ := vs_cons r1 h1
  obtain ⟨v3, r3, rfl, h3⟩ := vs_cons r2 h2
  obtain ⟨v4, r4, rfl, h4⟩ := vs_cons r3 h3
  obtain ⟨v5, r5, rfl, h5⟩ := vs_cons r4 h4
  obtain ⟨v6, r6, rfl, h6⟩ := vs_cons r5 h5
  obtain ⟨v7, r7, rfl, h7⟩ := vs_cons r6 h6
  obtain ⟨v8, r8, rfl, h8⟩ := vs_cons r7 h7
  obtain ⟨v9, r9, rfl, h9⟩ := vs_cons r8 h8
  obtain ⟨v10, r10, rfl, h10⟩ := vs_cons r9 h9
  obtain ⟨v11, r11, rfl, h11⟩ := vs_cons r10 h10
  obtain ⟨v12, r12, rfl, h12⟩ := vs_cons r11 h11
  obtain ⟨v13, r13, rfl, h13⟩ := vs_cons r12 h12
  obtain ⟨v14, r14, rfl, h14⟩ := vs_cons r13 h13
  obtain ⟨v15, r15, rfl, h15⟩ := vs_cons r14 h14
  obtain ⟨v16, r16, rfl, h16⟩ := vs_cons r15 h15
  obtain ⟨v17, r17, rfl, h17⟩ := vs_cons r16 h16
  obtain ⟨v18, r18, rfl, h18⟩ := vs_cons r17 h17
  obtain ⟨v19, r19, rfl, h19⟩ := vs_cons r18 h18
  obtain ⟨v20, r20, rfl, h20⟩ := vs_cons r19 h19
  obtain ⟨v21, r21, rfl, h21⟩ := vs_cons r20 h20
  obtain ⟨v22, r22, rfl, h22⟩ := vs_cons r21 h21
  obtain rfl := List.eq_nil_of_length_eq_zero h22
  exact ⟨v0, v1, v2, v3, v4, v5, v6, v7, v8, v9, v10, v11, v12, v13, v14, v15, v16, v17, v18, v19, v20, v21, v22, rfl⟩
theorem wanted_un {ops : Array Oper} {a : Act} {o og : Oper} {g d : Nat} {pol : Bool} (hg : o.guard = some (g, pol)) (hog : ops[g]? = some og) (hd : og.dst = some d) (he : a.eval (.tmp d) = undef) : Region.wanted o (yielded ops a.tmps) = false := by
  unfold Region.wanted
  rw [hg]
  unfold yielded
  simp only [hog, Option.bind_some, hd]
  cases ht : a.tmps[d]? with
  | none => rfl
  | some v =>
    have : v = undef := by simpa [Act.eval, ht] using he
    subst this
    rfl
set_option maxHeartbeats 4000000 in
theorem pref_long (ao : Option Addr) (cap : Nat) (l : List Rt) (a : Nat) (w : World) (hl : 60 < l.length) :
    Calls Try.prog 6 #[.slice ao l.length cap, .int .u32 a] w fun e w' => e = .returned (.bool true) ∧ Below w.heap.size w w' := by
  have hl' : (60 : Int) < (l.length : Int) := by omega
  go_enter Try.func6, Try.ntmps6
  go_wp2_with fail
  refine (awake_any _).mono ?_
  rintro e w1 ⟨rfl, hb1⟩
  go_wp2
  go_ret
  exact ⟨rfl, hb1⟩

set_option maxHeartbeats 8000000 in
theorem prefers_all (ao : Option Addr) (cap : Nat) (l : List Rt) (a : Nat) (w : World) (hrow : RtRow w ao l) (hok : ∀ r ∈ l, r.a < 4294967296 ∧ I64 r.b ∧ I64 r.o) (ha : a < 4294967296) :
    Calls Try.prog 6 #[.slice ao l.length cap, .int .u32 a] w fun e w' => e = .returned (.bool true) ∧ Below w.heap.size w w' := by
  by_cases hl : 60 < l.length
  · exact pref_long ao cap l a w hl
  have hl' : ¬ (60 : Int) < (l.length : Int) := by omega
  have HRow := Lib.hid hrow
  have HOk := Lib.hid hok
  have Ha := Lib.hid ha
  clear hrow hok ha
  go_enter Try.func6, Try.ntmps6
  go_wp2_with fail
  refine (awake_any _).mono ?_
  rintro e w1 ⟨rfl, hb1⟩
  go_wp2_with fail
  refine (New_any w1).mono ?_
  rintro e w2 ⟨g, rfl, hT2, hb2⟩
  have hbw2 := hb1.trans (hb2.mono hb1.size)
  have hb1s := hb1.size
  have HT2 : Hid (TrieAt (Mine w w2) w2 g st0) := Lib.hid (hT2.mono fun k hk => ⟨by omega, hk.2⟩)
  clear hT2 hb2 hb1
  go_wp2
  go_loopw [6] (fun i wr => ∃ (k : Nat) (st : St) (rs : List Rt), k ≤ l.length ∧ i = .int .i64 k ∧ TrieAt (Mine w wr) wr g st ∧ Inv st rs ∧ st.nodes.length ≤ 1 + 32 * k ∧ rs.length ≤ k ∧ Cov l rs k ∧ Below w.heap.size w wr) (fun i _ => l.length - (intOf i).toNat)
  case atStart => exact ⟨0, st0, [], Nat.zero_le _, rfl, HT2.out, Inv.new, Nat.le_refl _, Nat.le_refl _, fun j hj => absurd hj (Nat.not_lt_zero _), hbw2⟩
  case round =>
    clear HT2 hbw2
    obtain ⟨k, st, rs, hk, rfl, hT, hI, hnl, hrl, hcov, hb⟩ := hrel
    have HT := Lib.hid hT
    have HI := Lib.hid hI
    have HC := Lib.hid hcov
    clear hT hI hcov
    by_cases hkl : k < l.length
    · obtain ⟨b, off, rfl, c0, c1, c2⟩ := (HRow.out.below hb).at k hkl
      have hkl' : (k : Int) < (l.length : Int) := by omega
      have hm := HOk.out _ (getD_mem l k hkl)
      have HC2 := Lib.hid (HC.out.more (by omega))
      have hal := Lib.hid (R.add_len rs (l.getD k zR))
      have hbs := hb.size
      have HA := Lib.hid (Add_any (Mine w wr) g st rs (l.getD k zR) wr HT.out (fun k hk => hk.2) HI.out hm.1 (by omega) (by omega))
      generalize l.getD k zR = r at *
      have HA : Hid (Calls Try.prog 10 #[.pointer (some ⟨g, 0, none⟩), .agg #[.int .u32 r.a, .int .i64 r.b, .int .i64 r.o]] wr _) := HA
      go_wp2_with fail
      refine HA.out.mono ?_
      rintro e w3 ⟨rfl, hc3, st3, hT3, hI3, hl3⟩
      have HT3 := Lib.hid (hT3.up hbs hc3.size)
      have HI3 := Lib.hid hI3
      have hbw3 := hb.trans (hc3.below (fun k hk => hk.1) hbs)
      clear hT3 hI3 hc3 HA HT HI c0 c1 c2
      go_wp2
      go_roundw
      case rel => exact ⟨k + 1, st3, _, by omega, by go_num, HT3.out, HI3.out, by omega, by have := hal.out; omega, HC2.out, hbw3⟩
      case measure => simp [intOf]; omega
    · obtain rfl : k = l.length := by omega
      have hkl' : ¬ (l.length : Int) < (l.length : Int) := by omega
      obtain ⟨pl, hR, _⟩ := HI.out
      have HR := Lib.hid hR
      clear hR
      go_wp2_with fail
      refine (Find_any _ g st rs pl a wr HT.out HR.out Ha.out (by omega)).mono ?_
      rintro e w3 ⟨r, ok, rfl, hf, hb3⟩
      have hbw3 := hb.trans (hb3.mono hb.size)
      have HP := Lib.hid (fun k hk => prefer HC.out hf k hk)
      have HF := Lib.hid hf
      have Hra : Hid (ok = true → r.a < 4294967296) := Lib.hid fun h => (HR.out.right r (hf.yes h).1).2
      clear hf hb3 HT HI HR HC
      unfold Rt.agg
      have hb4 : Below w3.heap.size w3 (w3.alloc (.cells #[.int .u32 r.a, .int .i64 r.b, .int .i64 r.o] 31)) := (Below.refl _ _).alloc (Nat.le_refl _) _
      have HB4 := Lib.hid (RBlk.new w3 r)
      have hbw4 := hbw3.trans (hb4.mono hbw3.size)
      go_upto_region 9 with fail
      generalize w3.alloc (.cells #[.int .u32 r.a, .int .i64 r.b, .int .i64 r.o] 31) = w4 at *
      clear hb4 hbw3
      -- LOOP2
      generalize w3.heap.size = b7 at *
      clear hl'
      cases ok
      · have hbw4 := hbw4
        have hbw4' := hbw4
        have hbw4 : Below w.heap.size w w4 := hbw4'
        have hbw4x := hbw4
        go_wp2
        go_loopw [9] (fun i wr => ∃ k : Nat, k ≤ l.length ∧ i = .int .i64 k ∧ Below w4.heap.size w4 wr ∧ Below w.heap.size w wr) (fun i _ => l.length - (intOf i).toNat)
        case atStart => exact ⟨0, Nat.zero_le _, rfl, Below.refl _ _, hbw4x⟩
        case round =>
          clear hbw4 hbw4' hbw4x
          obtain ⟨k, hk, rfl, hb5, hbw⟩ := hrel
          by_cases hkl : k < l.length
          · obtain ⟨b, off, rfl, c0, c1, c2⟩ := (HRow.out.below hbw).at k hkl
            have hkl2 : (k : Int) < (l.length : Int) := by omega
            have hm := HOk.out _ (getD_mem l k hkl)
            have hpp := HP.out k hkl
            obtain ⟨d0, d1, d2⟩ := (HB4.out.below hb5).cells
            have HHo := Lib.hid (fun w' => refholds_any (l.getD k zR).a (l.getD k zR).b a w' hm.1 Ha.out)
            generalize l.getD k zR = r2 at *
            cases hH : A.holds r2.a r2.b a
            · rw [hH] at HHo
              clear hpp
              go_wp2
              refine region_gen (VG wr.heap.size [.val (.slice (some ⟨b, off, none⟩) l.length cap), .val (.int .i64 k), .val (.pointer (some ⟨b, off + k * 3, none⟩)), .val (.pointer (some ⟨b, off + k * 3, none⟩)), .val (.agg #[.int .u32 r2.a, .int .i64 r2.b]), .val (.int .u32 a), .val (.bool false), .val (.bool false), .val (undef), .val (undef), .val (undef), .val (undef), .val (undef), .val (undef), .val (undef), .val (undef), .val (undef), .val (undef), .val (undef), .val (undef), .val (undef), .val (undef), .val (.bool false)]) (BS wr) (by kernel_rfl) (by kernel_rfl) (Below.refl _ _).drew ⟨?_, ?_, ?_, ?_, ?_, ?_, ?_, ?_, ?_, ?_, ?_, ?_, ?_, ?_, ?_, ?_, ?_, ?_, ?_, ?_, ?_, ?_, ?_, trivial⟩ ?_
              · go_light; intro listed a' w' hs hS hun hdep
                have e0 : a'.eval (.tmp 0) = .slice (some ⟨b, off, none⟩) l.length cap := (hs.out 0 (by kernel_rfl)).trans (rfl)
                refine g_val (.slice (some ⟨b, off, none⟩) l.length cap) hS rfl ?_ rfl
                have hcn := BigFrame.eval_const a'; have hfn := BigFrame.eval_func a'; clear hs hdep; generalize a'.eval = ev at *; go_simp
              · go_light; intro listed a' w' hs hS hun hdep
                have e9 : a'.eval (.tmp 9) = .int .i64 k := (hs.out 9 (by kernel_rfl)).trans (rfl)
                refine g_val (.int .i64 k) hS rfl ?_ rfl
                have hcn := BigFrame.eval_const a'; have hfn := BigFrame.eval_func a'; clear hs hdep; generalize a'.eval = ev at *; go_simp
              · go_light; intro listed a' w' hs hS hun hdep
                have e51 : a'.eval (.tmp 51) = .slice (some ⟨b, off, none⟩) l.length cap := hs.eval 0 _ 51 rfl (hdep ⟨0, .data⟩ (by simp) rfl) rfl
                have e52 : a'.eval (.tmp 52) = .int .i64 k := hs.eval 1 _ 52 rfl (hdep ⟨1, .data⟩ (by simp) rfl) rfl
                refine g_val (.pointer (some ⟨b, off + k * 3, none⟩)) hS rfl ?_ rfl
                have hcn := BigFrame.eval_const a'; have hfn := BigFrame.eval_func a'; clear hs hdep; generalize a'.eval = ev at *; go_simp
              · go_light; intro listed a' w' hs hS hun hdep
                have e53 : a'.eval (.tmp 53) = .pointer (some ⟨b, off + k * 3, none⟩) := hs.eval 2 _ 53 rfl (hdep ⟨2, .data⟩ (by simp) rfl) rfl
                refine g_val (.pointer (some ⟨b, off + k * 3, none⟩)) hS rfl ?_ rfl
                have hcn := BigFrame.eval_const a'; have hfn := BigFrame.eval_func a'; clear hs hdep; generalize a'.eval = ev at *; go_simp
              · go_light; intro listed a' w' hs hS hun hdep
                have e54 : a'.eval (.tmp 54) = .pointer (some ⟨b, off + k * 3, none⟩) := hs.eval 3 _ 54 rfl (hdep ⟨3, .data⟩ (by simp) rfl) rfl
                have kk0 := cell_below hS c0; have kk1 := cell_below hS c1
                refine g_val (.agg #[.int .u32 r2.a, .int .i64 r2.b]) hS rfl ?_ rfl
                have hcn := BigFrame.eval_const a'; have hfn := BigFrame.eval_func a'; clear hs hdep; generalize a'.eval = ev at *; go_simp
              · go_light; intro listed a' w' hs hS hun hdep
                have e1 : a'.eval (.tmp 1) = .int .u32 a := (hs.out 1 (by kernel_rfl)).trans (rfl)
                refine g_val (.int .u32 a) hS rfl ?_ rfl
                have hcn := BigFrame.eval_const a'; have hfn := BigFrame.eval_func a'; clear hs hdep; generalize a'.eval = ev at *; go_simp
              · go_light; intro listed a' w' hs hS hun hdep
                have e55 : a'.eval (.tmp 55) = .agg #[.int .u32 r2.a, .int .i64 r2.b] := hs.eval 4 _ 55 rfl (hdep ⟨4, .data⟩ (by simp) rfl) rfl
                have e56 : a'.eval (.tmp 56) = .int .u32 a := hs.eval 5 _ 56 rfl (hdep ⟨5, .data⟩ (by simp) rfl) rfl
                refine g_call 22 #[.agg #[.int .u32 r2.a, .int .i64 r2.b], .int .u32 a] hS rfl ?_ ?_
                · have hcn := BigFrame.eval_const a'; have hfn := BigFrame.eval_func a'; clear hs hdep; generalize a'.eval = ev at *; go_simp
                · exact c_val (HHo.out w') rfl
              · go_light; intro listed a' w' hs hS hun hdep
                have e57 : a'.eval (.tmp 57) = .bool false := hs.eval 6 _ 57 rfl (hdep ⟨6, .data⟩ (by simp) rfl) rfl
                refine g_val (.bool false) hS rfl ?_ rfl
                have hcn := BigFrame.eval_const a'; have hfn := BigFrame.eval_func a'; clear hs hdep; generalize a'.eval = ev at *; go_simp
              · go_light; intro listed a' w' hs hS hun hdep
                have eg : a'.eval (.tmp 58) = .bool false := hs.eval 7 _ 58 rfl (hdep ⟨7, .guard⟩ (by simp) rfl) rfl
                exact g_not hS (wanted_no rfl rfl rfl eg (by decide)) rfl
              · go_light; intro listed a' w' hs hS hun hdep
                have eg : a'.eval (.tmp 58) = .bool false := hs.eval 7 _ 58 rfl (hdep ⟨7, .guard⟩ (by simp) rfl) rfl
                exact g_not hS (wanted_no rfl rfl rfl eg (by decide)) rfl
              · go_light; intro listed a' w' hs hS hun hdep
                have eg : a'.eval (.tmp 58) = .bool false := hs.eval 7 _ 58 rfl (hdep ⟨7, .guard⟩ (by simp) rfl) rfl
                exact g_not hS (wanted_no rfl rfl rfl eg (by decide)) rfl
              · go_light; intro listed a' w' hs hS hun hdep
                have eg : a'.eval (.tmp 61) = undef := hs.eval 10 _ 61 rfl (hdep ⟨10, .guard⟩ (by simp) rfl) rfl
                exact g_not hS (wanted_un rfl rfl rfl eg) rfl
              · go_light; intro listed a' w' hs hS hun hdep
                have eg : a'.eval (.tmp 61) = undef := hs.eval 10 _ 61 rfl (hdep ⟨10, .guard⟩ (by simp) rfl) rfl
                exact g_not hS (wanted_un rfl rfl rfl eg) rfl
              · go_light; intro listed a' w' hs hS hun hdep
                have eg : a'.eval (.tmp 61) = undef := hs.eval 10 _ 61 rfl (hdep ⟨10, .guard⟩ (by simp) rfl) rfl
                exact g_not hS (wanted_un rfl rfl rfl eg) rfl
              · go_light; intro listed a' w' hs hS hun hdep
                have eg : a'.eval (.tmp 61) = undef := hs.eval 10 _ 61 rfl (hdep ⟨10, .guard⟩ (by simp) rfl) rfl
                exact g_not hS (wanted_un rfl rfl rfl eg) rfl
              · go_light; intro listed a' w' hs hS hun hdep
                have eg : a'.eval (.tmp 61) = undef := hs.eval 10 _ 61 rfl (hdep ⟨10, .guard⟩ (by simp) rfl) rfl
                exact g_not hS (wanted_un rfl rfl rfl eg) rfl
              · go_light; intro listed a' w' hs hS hun hdep
                have eg : a'.eval (.tmp 61) = undef := hs.eval 10 _ 61 rfl (hdep ⟨10, .guard⟩ (by simp) rfl) rfl
                exact g_not hS (wanted_un rfl rfl rfl eg) rfl
              · go_light; intro listed a' w' hs hS hun hdep
                have eg : a'.eval (.tmp 61) = undef := hs.eval 10 _ 61 rfl (hdep ⟨10, .guard⟩ (by simp) rfl) rfl
                exact g_not hS (wanted_un rfl rfl rfl eg) rfl
              · go_light; intro listed a' w' hs hS hun hdep
                have eg : a'.eval (.tmp 61) = undef := hs.eval 10 _ 61 rfl (hdep ⟨10, .guard⟩ (by simp) rfl) rfl
                exact g_not hS (wanted_un rfl rfl rfl eg) rfl
              · go_light; intro listed a' w' hs hS hun hdep
                have eg : a'.eval (.tmp 61) = undef := hs.eval 10 _ 61 rfl (hdep ⟨10, .guard⟩ (by simp) rfl) rfl
                exact g_not hS (wanted_un rfl rfl rfl eg) rfl
              · go_light; intro listed a' w' hs hS hun hdep
                have eg : a'.eval (.tmp 61) = undef := hs.eval 10 _ 61 rfl (hdep ⟨10, .guard⟩ (by simp) rfl) rfl
                exact g_not hS (wanted_un rfl rfl rfl eg) rfl
              · go_light; intro listed a' w' hs hS hun hdep
                have eg : a'.eval (.tmp 58) = .bool false := hs.eval 7 _ 58 rfl (hdep ⟨7, .guard⟩ (by simp) rfl) rfl
                exact g_not hS (wanted_no rfl rfl rfl eg (by decide)) rfl
              · go_light; intro listed a' w' hs hS hun hdep
                have e58 : a'.eval (.tmp 58) = .bool false := hs.eval 7 _ 58 rfl (hdep ⟨7, .data⟩ (by simp) rfl) rfl
                have e72 : a'.eval (.tmp 72) = undef := hs.eval 21 _ 72 rfl (hdep ⟨21, .data⟩ (by simp) rfl) rfl
                refine g_val (.bool false) hS rfl ?_ rfl
                have hcn := BigFrame.eval_const a'; have hfn := BigFrame.eval_func a'; clear hs hdep; generalize a'.eval = ev at *; go_simp
              · intro vs w6 hlen hV listed hall hS
                obtain ⟨v0, v1, v2, v3, v4, v5, v6, v7, v8, v9, v10, v11, v12, v13, v14, v15, v16, v17, v18, v19, v20, v21, v22, rfl⟩ := vs_23 vs (hlen.trans rfl)
                have q0 : v0 = .slice (some ⟨b, off, none⟩) l.length cap := hV 0 _ rfl
                have q1 : v1 = .int .i64 k := hV 1 _ rfl
                have q2 : v2 = .pointer (some ⟨b, off + k * 3, none⟩) := hV 2 _ rfl
                have q3 : v3 = .pointer (some ⟨b, off + k * 3, none⟩) := hV 3 _ rfl
                have q4 : v4 = .agg #[.int .u32 r2.a, .int .i64 r2.b] := hV 4 _ rfl
                have q5 : v5 = .int .u32 a := hV 5 _ rfl
                have q6 : v6 = .bool false := hV 6 _ rfl
                have q7 : v7 = .bool false := hV 7 _ rfl
                have q8 : v8 = undef := hV 8 _ rfl
                have q9 : v9 = undef := hV 9 _ rfl
                have q10 : v10 = undef := hV 10 _ rfl
                have q11 : v11 = undef := hV 11 _ rfl
                have q12 : v12 = undef := hV 12 _ rfl
                have q13 : v13 = undef := hV 13 _ rfl
                have q14 : v14 = undef := hV 14 _ rfl
                have q15 : v15 = undef := hV 15 _ rfl
                have q16 : v16 = undef := hV 16 _ rfl
                have q17 : v17 = undef := hV 17 _ rfl
                have q18 : v18 = undef := hV 18 _ rfl
                have q19 : v19 = undef := hV 19 _ rfl
                have q20 : v20 = undef := hV 20 _ rfl
                have q21 : v21 = undef := hV 21 _ rfl
                have q22 : v22 = .bool false := hV 22 _ rfl
                have hbel : Below wr.heap.size wr w6 := hS
                subst q0 q1 q2 q3 q4 q5 q6 q7 q8 q9 q10 q11 q12 q13 q14 q15 q16 q17 q18 q19 q20 q21 q22
                clear hV hS hall hlen
                clear listed
                simp only [lays, Act.put, List.setIfInBounds_toArray, List.set_cons_zero, List.set_cons_succ]
                have hb6 := hb5.trans (hbel.mono hb5.size)
                have hbw6 := hbw.trans (hbel.mono hbw.size)
                clear hb5 hbw hbel c0 c1 c2 d0 d1 d2
                go_wp2
                go_roundw
                case rel => exact ⟨k + 1, by omega, by go_num, hb6, hbw6⟩
                case measure => simp [intOf]; omega
            · exact absurd (hpp hH).1 (by simp)
          · obtain rfl : k = l.length := by omega
            have hkl2 : ¬ (l.length : Int) < (l.length : Int) := by omega
            go_wp2
            go_ret
            exact ⟨rfl, hbw⟩
      · obtain ⟨d0, d1, d2⟩ := HB4.out.cells
        have hr := HF.out.yes rfl
        have har := Lib.hid (HF.out.yes rfl).2.1
        have HHr := Lib.hid (fun w' (h : r.a < 4294967296) => refholds_any r.a r.b a w' h Ha.out)
        rw [har.out] at HHr
        clear hr
        go_wp2_with fail
        refine (HHr.out _ (Hra.out (by trivial))).mono ?_
        rintro e w5 ⟨rfl, hb5⟩
        have hbw5 := hbw4.trans (hb5.mono hbw4.size)
        have HB5 := Lib.hid (HB4.out.below hb5)
        clear d0 d1 d2 hb5 hbw4 HB4
        go_wp2
        go_loopw [9] (fun i wr => ∃ k : Nat, k ≤ l.length ∧ i = .int .i64 k ∧ Below w5.heap.size w5 wr ∧ Below w.heap.size w wr) (fun i _ => l.length - (intOf i).toNat)
        case atStart => exact ⟨0, Nat.zero_le _, rfl, Below.refl _ _, hbw5⟩
        case round =>
          clear hbw5
          obtain ⟨k, hk, rfl, hb5, hbw⟩ := hrel
          by_cases hkl : k < l.length
          · obtain ⟨b, off, rfl, c0, c1, c2⟩ := (HRow.out.below hbw).at k hkl
            have hkl2 : (k : Int) < (l.length : Int) := by omega
            have hm := HOk.out _ (getD_mem l k hkl)
            have hpp := HP.out k hkl
            obtain ⟨d0, d1, d2⟩ := (HB5.out.below hb5).cells
            have HHo := Lib.hid (fun w' => refholds_any (l.getD k zR).a (l.getD k zR).b a w' hm.1 Ha.out)
            generalize l.getD k zR = r2 at *
            cases hH : A.holds r2.a r2.b a
            · rw [hH] at HHo
              clear hpp
              go_wp2
              refine region_gen (VG wr.heap.size [.val (.slice (some ⟨b, off, none⟩) l.length cap), .val (.int .i64 k), .val (.pointer (some ⟨b, off + k * 3, none⟩)), .val (.pointer (some ⟨b, off + k * 3, none⟩)), .val (.agg #[.int .u32 r2.a, .int .i64 r2.b]), .val (.int .u32 a), .val (.bool false), .val (.bool false), .val (undef), .val (undef), .val (undef), .val (undef), .val (undef), .val (undef), .val (undef), .val (undef), .val (undef), .val (undef), .val (undef), .val (undef), .val (undef), .val (undef), .val (.bool false)]) (BS wr) (by kernel_rfl) (by kernel_rfl) (Below.refl _ _).drew ⟨?_, ?_, ?_, ?_, ?_, ?_, ?_, ?_, ?_, ?_, ?_, ?_, ?_, ?_, ?_, ?_, ?_, ?_, ?_, ?_, ?_, ?_, ?_, trivial⟩ ?_
              · go_light; intro listed a' w' hs hS hun hdep
                have e0 : a'.eval (.tmp 0) = .slice (some ⟨b, off, none⟩) l.length cap := (hs.out 0 (by kernel_rfl)).trans (rfl)
                refine g_val (.slice (some ⟨b, off, none⟩) l.length cap) hS rfl ?_ rfl
                have hcn := BigFrame.eval_const a'; have hfn := BigFrame.eval_func a'; clear hs hdep; generalize a'.eval = ev at *; go_simp
              · go_light; intro listed a' w' hs hS hun hdep
                have e9 : a'.eval (.tmp 9) = .int .i64 k := (hs.out 9 (by kernel_rfl)).trans (rfl)
                refine g_val (.int .i64 k) hS rfl ?_ rfl
                have hcn := BigFrame.eval_const a'; have hfn := BigFrame.eval_func a'; clear hs hdep; generalize a'.eval = ev at *; go_simp
              · go_light; intro listed a' w' hs hS hun hdep
                have e51 : a'.eval (.tmp 51) = .slice (some ⟨b, off, none⟩) l.length cap := hs.eval 0 _ 51 rfl (hdep ⟨0, .data⟩ (by simp) rfl) rfl
                have e52 : a'.eval (.tmp 52) = .int .i64 k := hs.eval 1 _ 52 rfl (hdep ⟨1, .data⟩ (by simp) rfl) rfl
                refine g_val (.pointer (some ⟨b, off + k * 3, none⟩)) hS rfl ?_ rfl
                have hcn := BigFrame.eval_const a'; have hfn := BigFrame.eval_func a'; clear hs hdep; generalize a'.eval = ev at *; go_simp
              · go_light; intro listed a' w' hs hS hun hdep
                have e53 : a'.eval (.tmp 53) = .pointer (some ⟨b, off + k * 3, none⟩) := hs.eval 2 _ 53 rfl (hdep ⟨2, .data⟩ (by simp) rfl) rfl
                refine g_val (.pointer (some ⟨b, off + k * 3, none⟩)) hS rfl ?_ rfl
                have hcn := BigFrame.eval_const a'; have hfn := BigFrame.eval_func a'; clear hs hdep; generalize a'.eval = ev at *; go_simp
              · go_light; intro listed a' w' hs hS hun hdep
                have e54 : a'.eval (.tmp 54) = .pointer (some ⟨b, off + k * 3, none⟩) := hs.eval 3 _ 54 rfl (hdep ⟨3, .data⟩ (by simp) rfl) rfl
                have kk0 := cell_below hS c0; have kk1 := cell_below hS c1
                refine g_val (.agg #[.int .u32 r2.a, .int .i64 r2.b]) hS rfl ?_ rfl
                have hcn := BigFrame.eval_const a'; have hfn := BigFrame.eval_func a'; clear hs hdep; generalize a'.eval = ev at *; go_simp
              · go_light; intro listed a' w' hs hS hun hdep
                have e1 : a'.eval (.tmp 1) = .int .u32 a := (hs.out 1 (by kernel_rfl)).trans (rfl)
                refine g_val (.int .u32 a) hS rfl ?_ rfl
                have hcn := BigFrame.eval_const a'; have hfn := BigFrame.eval_func a'; clear hs hdep; generalize a'.eval = ev at *; go_simp
              · go_light; intro listed a' w' hs hS hun hdep
                have e55 : a'.eval (.tmp 55) = .agg #[.int .u32 r2.a, .int .i64 r2.b] := hs.eval 4 _ 55 rfl (hdep ⟨4, .data⟩ (by simp) rfl) rfl
                have e56 : a'.eval (.tmp 56) = .int .u32 a := hs.eval 5 _ 56 rfl (hdep ⟨5, .data⟩ (by simp) rfl) rfl
                refine g_call 22 #[.agg #[.int .u32 r2.a, .int .i64 r2.b], .int .u32 a] hS rfl ?_ ?_
                · have hcn := BigFrame.eval_const a'; have hfn := BigFrame.eval_func a'; clear hs hdep; generalize a'.eval = ev at *; go_simp
                · exact c_val (HHo.out w') rfl
              · go_light; intro listed a' w' hs hS hun hdep
                have e57 : a'.eval (.tmp 57) = .bool false := hs.eval 6 _ 57 rfl (hdep ⟨6, .data⟩ (by simp) rfl) rfl
                refine g_val (.bool false) hS rfl ?_ rfl
                have hcn := BigFrame.eval_const a'; have hfn := BigFrame.eval_func a'; clear hs hdep; generalize a'.eval = ev at *; go_simp
              · go_light; intro listed a' w' hs hS hun hdep
                have eg : a'.eval (.tmp 58) = .bool false := hs.eval 7 _ 58 rfl (hdep ⟨7, .guard⟩ (by simp) rfl) rfl
                exact g_not hS (wanted_no rfl rfl rfl eg (by decide)) rfl
              · go_light; intro listed a' w' hs hS hun hdep
                have eg : a'.eval (.tmp 58) = .bool false := hs.eval 7 _ 58 rfl (hdep ⟨7, .guard⟩ (by simp) rfl) rfl
                exact g_not hS (wanted_no rfl rfl rfl eg (by decide)) rfl
              · go_light; intro listed a' w' hs hS hun hdep
                have eg : a'.eval (.tmp 58) = .bool false := hs.eval 7 _ 58 rfl (hdep ⟨7, .guard⟩ (by simp) rfl) rfl
                exact g_not hS (wanted_no rfl rfl rfl eg (by decide)) rfl
              · go_light; intro listed a' w' hs hS hun hdep
                have eg : a'.eval (.tmp 61) = undef := hs.eval 10 _ 61 rfl (hdep ⟨10, .guard⟩ (by simp) rfl) rfl
                exact g_not hS (wanted_un rfl rfl rfl eg) rfl
              · go_light; intro listed a' w' hs hS hun hdep
                have eg : a'.eval (.tmp 61) = undef := hs.eval 10 _ 61 rfl (hdep ⟨10, .guard⟩ (by simp) rfl) rfl
                exact g_not hS (wanted_un rfl rfl rfl eg) rfl
              · go_light; intro listed a' w' hs hS hun hdep
                have eg : a'.eval (.tmp 61) = undef := hs.eval 10 _ 61 rfl (hdep ⟨10, .guard⟩ (by simp) rfl) rfl
                exact g_not hS (wanted_un rfl rfl rfl eg) rfl
              · go_light; intro listed a' w' hs hS hun hdep
                have eg : a'.eval (.tmp 61) = undef := hs.eval 10 _ 61 rfl (hdep ⟨10, .guard⟩ (by simp) rfl) rfl
                exact g_not hS (wanted_un rfl rfl rfl eg) rfl
              · go_light; intro listed a' w' hs hS hun hdep
                have eg : a'.eval (.tmp 61) = undef := hs.eval 10 _ 61 rfl (hdep ⟨10, .guard⟩ (by simp) rfl) rfl
                exact g_not hS (wanted_un rfl rfl rfl eg) rfl
              · go_light; intro listed a' w' hs hS hun hdep
                have eg : a'.eval (.tmp 61) = undef := hs.eval 10 _ 61 rfl (hdep ⟨10, .guard⟩ (by simp) rfl) rfl
                exact g_not hS (wanted_un rfl rfl rfl eg) rfl
              · go_light; intro listed a' w' hs hS hun hdep
                have eg : a'.eval (.tmp 61) = undef := hs.eval 10 _ 61 rfl (hdep ⟨10, .guard⟩ (by simp) rfl) rfl
                exact g_not hS (wanted_un rfl rfl rfl eg) rfl
              · go_light; intro listed a' w' hs hS hun hdep
                have eg : a'.eval (.tmp 61) = undef := hs.eval 10 _ 61 rfl (hdep ⟨10, .guard⟩ (by simp) rfl) rfl
                exact g_not hS (wanted_un rfl rfl rfl eg) rfl
              · go_light; intro listed a' w' hs hS hun hdep
                have eg : a'.eval (.tmp 61) = undef := hs.eval 10 _ 61 rfl (hdep ⟨10, .guard⟩ (by simp) rfl) rfl
                exact g_not hS (wanted_un rfl rfl rfl eg) rfl
              · go_light; intro listed a' w' hs hS hun hdep
                have eg : a'.eval (.tmp 61) = undef := hs.eval 10 _ 61 rfl (hdep ⟨10, .guard⟩ (by simp) rfl) rfl
                exact g_not hS (wanted_un rfl rfl rfl eg) rfl
              · go_light; intro listed a' w' hs hS hun hdep
                have eg : a'.eval (.tmp 58) = .bool false := hs.eval 7 _ 58 rfl (hdep ⟨7, .guard⟩ (by simp) rfl) rfl
                exact g_not hS (wanted_no rfl rfl rfl eg (by decide)) rfl
              · go_light; intro listed a' w' hs hS hun hdep
                have e58 : a'.eval (.tmp 58) = .bool false := hs.eval 7 _ 58 rfl (hdep ⟨7, .data⟩ (by simp) rfl) rfl
                have e72 : a'.eval (.tmp 72) = undef := hs.eval 21 _ 72 rfl (hdep ⟨21, .data⟩ (by simp) rfl) rfl
                refine g_val (.bool false) hS rfl ?_ rfl
                have hcn := BigFrame.eval_const a'; have hfn := BigFrame.eval_func a'; clear hs hdep; generalize a'.eval = ev at *; go_simp
              · intro vs w6 hlen hV listed hall hS
                obtain ⟨v0, v1, v2, v3, v4, v5, v6, v7, v8, v9, v10, v11, v12, v13, v14, v15, v16, v17, v18, v19, v20, v21, v22, rfl⟩ := vs_23 vs (hlen.trans rfl)
                have q0 : v0 = .slice (some ⟨b, off, none⟩) l.length cap := hV 0 _ rfl
                have q1 : v1 = .int .i64 k := hV 1 _ rfl
                have q2 : v2 = .pointer (some ⟨b, off + k * 3, none⟩) := hV 2 _ rfl
                have q3 : v3 = .pointer (some ⟨b, off + k * 3, none⟩) := hV 3 _ rfl
                have q4 : v4 = .agg #[.int .u32 r2.a, .int .i64 r2.b] := hV 4 _ rfl
                have q5 : v5 = .int .u32 a := hV 5 _ rfl
                have q6 : v6 = .bool false := hV 6 _ rfl
                have q7 : v7 = .bool false := hV 7 _ rfl
                have q8 : v8 = undef := hV 8 _ rfl
                have q9 : v9 = undef := hV 9 _ rfl
                have q10 : v10 = undef := hV 10 _ rfl
                have q11 : v11 = undef := hV 11 _ rfl
                have q12 : v12 = undef := hV 12 _ rfl
                have q13 : v13 = undef := hV 13 _ rfl
                have q14 : v14 = undef := hV 14 _ rfl
                have q15 : v15 = undef := hV 15 _ rfl
                have q16 : v16 = undef := hV 16 _ rfl
                have q17 : v17 = undef := hV 17 _ rfl
                have q18 : v18 = undef := hV 18 _ rfl
                have q19 : v19 = undef := hV 19 _ rfl
                have q20 : v20 = undef := hV 20 _ rfl
                have q21 : v21 = undef := hV 21 _ rfl
                have q22 : v22 = .bool false := hV 22 _ rfl
                have hbel : Below wr.heap.size wr w6 := hS
                subst q0 q1 q2 q3 q4 q5 q6 q7 q8 q9 q10 q11 q12 q13 q14 q15 q16 q17 q18 q19 q20 q21 q22
                clear hV hS hall hlen
                clear listed
                simp only [lays, Act.put, List.setIfInBounds_toArray, List.set_cons_zero, List.set_cons_succ]
                have hb6 := hb5.trans (hbel.mono hb5.size)
                have hbw6 := hbw.trans (hbel.mono hbw.size)
                clear hb5 hbw hbel c0 c1 c2 d0 d1 d2
                go_wp2
                go_roundw
                case rel => exact ⟨k + 1, by omega, by go_num, hb6, hbw6⟩
                case measure => simp [intOf]; omega
            · rw [hH] at HHo
              have hle := (hpp hH).2
              have hgt : ¬ r.b < r2.b := by omega
              clear hpp
              go_wp2
              refine region_gen (VG wr.heap.size [.val (.slice (some ⟨b, off, none⟩) l.length cap), .val (.int .i64 k), .val (.pointer (some ⟨b, off + k * 3, none⟩)), .val (.pointer (some ⟨b, off + k * 3, none⟩)), .val (.agg #[.int .u32 r2.a, .int .i64 r2.b]), .val (.int .u32 a), .val (.bool true), .val (.bool true), .val (.bool true), .val (.bool false), .val (.bool false), .val (.slice (some ⟨b, off, none⟩) l.length cap), .val (.int .i64 k), .val (.pointer (some ⟨b, off + k * 3, none⟩)), .val (.pointer (some ⟨b, off + k * 3, none⟩)), .val (.pointer (some ⟨b, off + k * 3 + 1, none⟩)), .val (.int .i64 r2.b), .val (.pointer (some ⟨b7, 0, none⟩)), .val (.pointer (some ⟨b7, 1, none⟩)), .val (.int .i64 r.b), .val (.bool false), .val (.bool false), .val (.bool false)]) (BS wr) (by kernel_rfl) (by kernel_rfl) (Below.refl _ _).drew ⟨?_, ?_, ?_, ?_, ?_, ?_, ?_, ?_, ?_, ?_, ?_, ?_, ?_, ?_, ?_, ?_, ?_, ?_, ?_, ?_, ?_, ?_, ?_, trivial⟩ ?_
              · go_light; intro listed a' w' hs hS hun hdep
                have e0 : a'.eval (.tmp 0) = .slice (some ⟨b, off, none⟩) l.length cap := (hs.out 0 (by kernel_rfl)).trans (rfl)
                refine g_val (.slice (some ⟨b, off, none⟩) l.length cap) hS rfl ?_ rfl
                have hcn := BigFrame.eval_const a'; have hfn := BigFrame.eval_func a'; clear hs hdep; generalize a'.eval = ev at *; go_simp
              · go_light; intro listed a' w' hs hS hun hdep
                have e9 : a'.eval (.tmp 9) = .int .i64 k := (hs.out 9 (by kernel_rfl)).trans (rfl)
                refine g_val (.int .i64 k) hS rfl ?_ rfl
                have hcn := BigFrame.eval_const a'; have hfn := BigFrame.eval_func a'; clear hs hdep; generalize a'.eval = ev at *; go_simp
              · go_light; intro listed a' w' hs hS hun hdep
                have e51 : a'.eval (.tmp 51) = .slice (some ⟨b, off, none⟩) l.length cap := hs.eval 0 _ 51 rfl (hdep ⟨0, .data⟩ (by simp) rfl) rfl
                have e52 : a'.eval (.tmp 52) = .int .i64 k := hs.eval 1 _ 52 rfl (hdep ⟨1, .data⟩ (by simp) rfl) rfl
                refine g_val (.pointer (some ⟨b, off + k * 3, none⟩)) hS rfl ?_ rfl
                have hcn := BigFrame.eval_const a'; have hfn := BigFrame.eval_func a'; clear hs hdep; generalize a'.eval = ev at *; go_simp
              · go_light; intro listed a' w' hs hS hun hdep
                have e53 : a'.eval (.tmp 53) = .pointer (some ⟨b, off + k * 3, none⟩) := hs.eval 2 _ 53 rfl (hdep ⟨2, .data⟩ (by simp) rfl) rfl
                refine g_val (.pointer (some ⟨b, off + k * 3, none⟩)) hS rfl ?_ rfl
                have hcn := BigFrame.eval_const a'; have hfn := BigFrame.eval_func a'; clear hs hdep; generalize a'.eval = ev at *; go_simp
              · go_light; intro listed a' w' hs hS hun hdep
                have e54 : a'.eval (.tmp 54) = .pointer (some ⟨b, off + k * 3, none⟩) := hs.eval 3 _ 54 rfl (hdep ⟨3, .data⟩ (by simp) rfl) rfl
                have kk0 := cell_below hS c0; have kk1 := cell_below hS c1
                refine g_val (.agg #[.int .u32 r2.a, .int .i64 r2.b]) hS rfl ?_ rfl
                have hcn := BigFrame.eval_const a'; have hfn := BigFrame.eval_func a'; clear hs hdep; generalize a'.eval = ev at *; go_simp
              · go_light; intro listed a' w' hs hS hun hdep
                have e1 : a'.eval (.tmp 1) = .int .u32 a := (hs.out 1 (by kernel_rfl)).trans (rfl)
                refine g_val (.int .u32 a) hS rfl ?_ rfl
                have hcn := BigFrame.eval_const a'; have hfn := BigFrame.eval_func a'; clear hs hdep; generalize a'.eval = ev at *; go_simp
              · go_light; intro listed a' w' hs hS hun hdep
                have e55 : a'.eval (.tmp 55) = .agg #[.int .u32 r2.a, .int .i64 r2.b] := hs.eval 4 _ 55 rfl (hdep ⟨4, .data⟩ (by simp) rfl) rfl
                have e56 : a'.eval (.tmp 56) = .int .u32 a := hs.eval 5 _ 56 rfl (hdep ⟨5, .data⟩ (by simp) rfl) rfl
                refine g_call 22 #[.agg #[.int .u32 r2.a, .int .i64 r2.b], .int .u32 a] hS rfl ?_ ?_
                · have hcn := BigFrame.eval_const a'; have hfn := BigFrame.eval_func a'; clear hs hdep; generalize a'.eval = ev at *; go_simp
                · exact c_val (HHo.out w') rfl
              · go_light; intro listed a' w' hs hS hun hdep
                have e57 : a'.eval (.tmp 57) = .bool true := hs.eval 6 _ 57 rfl (hdep ⟨6, .data⟩ (by simp) rfl) rfl
                refine g_val (.bool true) hS rfl ?_ rfl
                have hcn := BigFrame.eval_const a'; have hfn := BigFrame.eval_func a'; clear hs hdep; generalize a'.eval = ev at *; go_simp
              · go_light; intro listed a' w' hs hS hun hdep
                have eg : a'.eval (.tmp 58) = .bool true := hs.eval 7 _ 58 rfl (hdep ⟨7, .guard⟩ (by simp) rfl) rfl
                have e8 : a'.eval (.tmp 8) = .bool true := (hs.out 8 (by kernel_rfl)).trans (rfl)
                refine g_val (.bool true) hS (wanted_yes rfl rfl rfl eg) ?_ rfl
                have hcn := BigFrame.eval_const a'; have hfn := BigFrame.eval_func a'; clear hs hdep; generalize a'.eval = ev at *; go_simp
              · go_light; intro listed a' w' hs hS hun hdep
                have eg : a'.eval (.tmp 58) = .bool true := hs.eval 7 _ 58 rfl (hdep ⟨7, .guard⟩ (by simp) rfl) rfl
                have e59 : a'.eval (.tmp 59) = .bool true := hs.eval 8 _ 59 rfl (hdep ⟨8, .data⟩ (by simp) rfl) rfl
                refine g_val (.bool false) hS (wanted_yes rfl rfl rfl eg) ?_ rfl
                have hcn := BigFrame.eval_const a'; have hfn := BigFrame.eval_func a'; clear hs hdep; generalize a'.eval = ev at *; go_simp
              · go_light; intro listed a' w' hs hS hun hdep
                have eg : a'.eval (.tmp 58) = .bool true := hs.eval 7 _ 58 rfl (hdep ⟨7, .guard⟩ (by simp) rfl) rfl
                have e60 : a'.eval (.tmp 60) = .bool false := hs.eval 9 _ 60 rfl (hdep ⟨9, .data⟩ (by simp) rfl) rfl
                refine g_val (.bool false) hS (wanted_yes rfl rfl rfl eg) ?_ rfl
                have hcn := BigFrame.eval_const a'; have hfn := BigFrame.eval_func a'; clear hs hdep; generalize a'.eval = ev at *; go_simp
              · go_light; intro listed a' w' hs hS hun hdep
                have eg : a'.eval (.tmp 61) = .bool false := hs.eval 10 _ 61 rfl (hdep ⟨10, .guard⟩ (by simp) rfl) rfl
                have e0 : a'.eval (.tmp 0) = .slice (some ⟨b, off, none⟩) l.length cap := (hs.out 0 (by kernel_rfl)).trans (rfl)
                refine g_val (.slice (some ⟨b, off, none⟩) l.length cap) hS (wanted_yes rfl rfl rfl eg) ?_ rfl
                have hcn := BigFrame.eval_const a'; have hfn := BigFrame.eval_func a'; clear hs hdep; generalize a'.eval = ev at *; go_simp
              · go_light; intro listed a' w' hs hS hun hdep
                have eg : a'.eval (.tmp 61) = .bool false := hs.eval 10 _ 61 rfl (hdep ⟨10, .guard⟩ (by simp) rfl) rfl
                have e9 : a'.eval (.tmp 9) = .int .i64 k := (hs.out 9 (by kernel_rfl)).trans (rfl)
                refine g_val (.int .i64 k) hS (wanted_yes rfl rfl rfl eg) ?_ rfl
                have hcn := BigFrame.eval_const a'; have hfn := BigFrame.eval_func a'; clear hs hdep; generalize a'.eval = ev at *; go_simp
              · go_light; intro listed a' w' hs hS hun hdep
                have eg : a'.eval (.tmp 61) = .bool false := hs.eval 10 _ 61 rfl (hdep ⟨10, .guard⟩ (by simp) rfl) rfl
                have e62 : a'.eval (.tmp 62) = .slice (some ⟨b, off, none⟩) l.length cap := hs.eval 11 _ 62 rfl (hdep ⟨11, .data⟩ (by simp) rfl) rfl
                have e63 : a'.eval (.tmp 63) = .int .i64 k := hs.eval 12 _ 63 rfl (hdep ⟨12, .data⟩ (by simp) rfl) rfl
                refine g_val (.pointer (some ⟨b, off + k * 3, none⟩)) hS (wanted_yes rfl rfl rfl eg) ?_ rfl
                have hcn := BigFrame.eval_const a'; have hfn := BigFrame.eval_func a'; clear hs hdep; generalize a'.eval = ev at *; go_simp
              · go_light; intro listed a' w' hs hS hun hdep
                have eg : a'.eval (.tmp 61) = .bool false := hs.eval 10 _ 61 rfl (hdep ⟨10, .guard⟩ (by simp) rfl) rfl
                have e64 : a'.eval (.tmp 64) = .pointer (some ⟨b, off + k * 3, none⟩) := hs.eval 13 _ 64 rfl (hdep ⟨13, .data⟩ (by simp) rfl) rfl
                refine g_val (.pointer (some ⟨b, off + k * 3, none⟩)) hS (wanted_yes rfl rfl rfl eg) ?_ rfl
                have hcn := BigFrame.eval_const a'; have hfn := BigFrame.eval_func a'; clear hs hdep; generalize a'.eval = ev at *; go_simp
              · go_light; intro listed a' w' hs hS hun hdep
                have eg : a'.eval (.tmp 61) = .bool false := hs.eval 10 _ 61 rfl (hdep ⟨10, .guard⟩ (by simp) rfl) rfl
                have e65 : a'.eval (.tmp 65) = .pointer (some ⟨b, off + k * 3, none⟩) := hs.eval 14 _ 65 rfl (hdep ⟨14, .data⟩ (by simp) rfl) rfl
                refine g_val (.pointer (some ⟨b, off + k * 3 + 1, none⟩)) hS (wanted_yes rfl rfl rfl eg) ?_ rfl
                have hcn := BigFrame.eval_const a'; have hfn := BigFrame.eval_func a'; clear hs hdep; generalize a'.eval = ev at *; go_simp
              · go_light; intro listed a' w' hs hS hun hdep
                have eg : a'.eval (.tmp 61) = .bool false := hs.eval 10 _ 61 rfl (hdep ⟨10, .guard⟩ (by simp) rfl) rfl
                have e66 : a'.eval (.tmp 66) = .pointer (some ⟨b, off + k * 3 + 1, none⟩) := hs.eval 15 _ 66 rfl (hdep ⟨15, .data⟩ (by simp) rfl) rfl
                have kk0 := cell_below hS c0; have kk1 := cell_below hS c1
                refine g_val (.int .i64 r2.b) hS (wanted_yes rfl rfl rfl eg) ?_ rfl
                have hcn := BigFrame.eval_const a'; have hfn := BigFrame.eval_func a'; clear hs hdep; generalize a'.eval = ev at *; go_simp
              · go_light; intro listed a' w' hs hS hun hdep
                have eg : a'.eval (.tmp 61) = .bool false := hs.eval 10 _ 61 rfl (hdep ⟨10, .guard⟩ (by simp) rfl) rfl
                have e7 : a'.eval (.tmp 7) = .pointer (some ⟨b7, 0, none⟩) := (hs.out 7 (by kernel_rfl)).trans (rfl)
                refine g_val (.pointer (some ⟨b7, 0, none⟩)) hS (wanted_yes rfl rfl rfl eg) ?_ rfl
                have hcn := BigFrame.eval_const a'; have hfn := BigFrame.eval_func a'; clear hs hdep; generalize a'.eval = ev at *; go_simp
              · go_light; intro listed a' w' hs hS hun hdep
                have eg : a'.eval (.tmp 61) = .bool false := hs.eval 10 _ 61 rfl (hdep ⟨10, .guard⟩ (by simp) rfl) rfl
                have e68 : a'.eval (.tmp 68) = .pointer (some ⟨b7, 0, none⟩) := hs.eval 17 _ 68 rfl (hdep ⟨17, .data⟩ (by simp) rfl) rfl
                refine g_val (.pointer (some ⟨b7, 1, none⟩)) hS (wanted_yes rfl rfl rfl eg) ?_ rfl
                have hcn := BigFrame.eval_const a'; have hfn := BigFrame.eval_func a'; clear hs hdep; generalize a'.eval = ev at *; go_simp
              · go_light; intro listed a' w' hs hS hun hdep
                have eg : a'.eval (.tmp 61) = .bool false := hs.eval 10 _ 61 rfl (hdep ⟨10, .guard⟩ (by simp) rfl) rfl
                have e69 : a'.eval (.tmp 69) = .pointer (some ⟨b7, 1, none⟩) := hs.eval 18 _ 69 rfl (hdep ⟨18, .data⟩ (by simp) rfl) rfl
                have kk2 := cell_below hS d1
                refine g_val (.int .i64 r.b) hS (wanted_yes rfl rfl rfl eg) ?_ rfl
                have hcn := BigFrame.eval_const a'; have hfn := BigFrame.eval_func a'; clear hs hdep; generalize a'.eval = ev at *; go_simp
              · go_light; intro listed a' w' hs hS hun hdep
                have eg : a'.eval (.tmp 61) = .bool false := hs.eval 10 _ 61 rfl (hdep ⟨10, .guard⟩ (by simp) rfl) rfl
                have e67 : a'.eval (.tmp 67) = .int .i64 r2.b := hs.eval 16 _ 67 rfl (hdep ⟨16, .data⟩ (by simp) rfl) rfl
                have e70 : a'.eval (.tmp 70) = .int .i64 r.b := hs.eval 19 _ 70 rfl (hdep ⟨19, .data⟩ (by simp) rfl) rfl
                refine g_val (.bool false) hS (wanted_yes rfl rfl rfl eg) ?_ rfl
                have hcn := BigFrame.eval_const a'; have hfn := BigFrame.eval_func a'; clear hs hdep; generalize a'.eval = ev at *; go_simp
              · go_light; intro listed a' w' hs hS hun hdep
                have eg : a'.eval (.tmp 58) = .bool true := hs.eval 7 _ 58 rfl (hdep ⟨7, .guard⟩ (by simp) rfl) rfl
                have e61 : a'.eval (.tmp 61) = .bool false := hs.eval 10 _ 61 rfl (hdep ⟨10, .data⟩ (by simp) rfl) rfl
                have e71 : a'.eval (.tmp 71) = .bool false := hs.eval 20 _ 71 rfl (hdep ⟨20, .data⟩ (by simp) rfl) rfl
                refine g_val (.bool false) hS (wanted_yes rfl rfl rfl eg) ?_ rfl
                have hcn := BigFrame.eval_const a'; have hfn := BigFrame.eval_func a'; clear hs hdep; generalize a'.eval = ev at *; go_simp
              · go_light; intro listed a' w' hs hS hun hdep
                have e58 : a'.eval (.tmp 58) = .bool true := hs.eval 7 _ 58 rfl (hdep ⟨7, .data⟩ (by simp) rfl) rfl
                have e72 : a'.eval (.tmp 72) = .bool false := hs.eval 21 _ 72 rfl (hdep ⟨21, .data⟩ (by simp) rfl) rfl
                refine g_val (.bool false) hS rfl ?_ rfl
                have hcn := BigFrame.eval_const a'; have hfn := BigFrame.eval_func a'; clear hs hdep; generalize a'.eval = ev at *; go_simp
              · intro vs w6 hlen hV listed hall hS
                obtain ⟨v0, v1, v2, v3, v4, v5, v6, v7, v8, v9, v10, v11, v12, v13, v14, v15, v16, v17, v18, v19, v20, v21, v22, rfl⟩ := vs_23 vs (hlen.trans rfl)
                have q0 : v0 = .slice (some ⟨b, off, none⟩) l.length cap := hV 0 _ rfl
                have q1 : v1 = .int .i64 k := hV 1 _ rfl
                have q2 : v2 = .pointer (some ⟨b, off + k * 3, none⟩) := hV 2 _ rfl
                have q3 : v3 = .pointer (some ⟨b, off + k * 3, none⟩) := hV 3 _ rfl
                have q4 : v4 = .agg #[.int .u32 r2.a, .int .i64 r2.b] := hV 4 _ rfl
                have q5 : v5 = .int .u32 a := hV 5 _ rfl
                have q6 : v6 = .bool true := hV 6 _ rfl
                have q7 : v7 = .bool true := hV 7 _ rfl
                have q8 : v8 = .bool true := hV 8 _ rfl
                have q9 : v9 = .bool false := hV 9 _ rfl
                have q10 : v10 = .bool false := hV 10 _ rfl
                have q11 : v11 = .slice (some ⟨b, off, none⟩) l.length cap := hV 11 _ rfl
                have q12 : v12 = .int .i64 k := hV 12 _ rfl
                have q13 : v13 = .pointer (some ⟨b, off + k * 3, none⟩) := hV 13 _ rfl
                have q14 : v14 = .pointer (some ⟨b, off + k * 3, none⟩) := hV 14 _ rfl
                have q15 : v15 = .pointer (some ⟨b, off + k * 3 + 1, none⟩) := hV 15 _ rfl
                have q16 : v16 = .int .i64 r2.b := hV 16 _ rfl
                have q17 : v17 = .pointer (some ⟨b7, 0, none⟩) := hV 17 _ rfl
                have q18 : v18 = .pointer (some ⟨b7, 1, none⟩) := hV 18 _ rfl
                have q19 : v19 = .int .i64 r.b := hV 19 _ rfl
                have q20 : v20 = .bool false := hV 20 _ rfl
                have q21 : v21 = .bool false := hV 21 _ rfl
                have q22 : v22 = .bool false := hV 22 _ rfl
                have hbel : Below wr.heap.size wr w6 := hS
                subst q0 q1 q2 q3 q4 q5 q6 q7 q8 q9 q10 q11 q12 q13 q14 q15 q16 q17 q18 q19 q20 q21 q22
                clear hV hS hall hlen
                clear listed
                simp only [lays, Act.put, List.setIfInBounds_toArray, List.set_cons_zero, List.set_cons_succ]
                have hb6 := hb5.trans (hbel.mono hb5.size)
                have hbw6 := hbw.trans (hbel.mono hbw.size)
                clear hb5 hbw hbel c0 c1 c2 d0 d1 d2
                go_wp2
                go_roundw
                case rel => exact ⟨k + 1, by omega, by go_num, hb6, hbw6⟩
                case measure => simp [intOf]; omega
          · obtain rfl : k = l.length := by omega
            have hkl2 : ¬ (l.length : Int) < (l.length : Int) := by omega
            go_wp2
            go_ret
            exact ⟨rfl, hbw⟩
theorem prefers_int (ao : Option Addr) (cap : Nat) (l : List Rt) (a : Int) (w : World) (hrow : RtRow w ao l) (hok : ∀ r ∈ l, r.a < 4294967296 ∧ I64 r.b ∧ I64 r.o) (ha : 0 ≤ a ∧ a ≤ 4294967295) :
    Calls Try.prog 6 #[.slice ao l.length cap, .int .u32 a] w fun e w' => e = .returned (.bool true) ∧ Below w.heap.size w w' := by
  obtain ⟨n, rfl⟩ := Int.eq_ofNat_of_zero_le ha.1
  exact prefers_all ao cap l n w hrow hok (by omega)
#print axioms prefers_int
end Go.Proofs.Ytepjefgbbobphaa
