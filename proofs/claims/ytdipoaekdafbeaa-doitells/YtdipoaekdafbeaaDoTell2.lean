/- The walk of what tells a label in a domain, either way. -/
import Derived.Test.YtdipoaekdafbeaaDoTell
import Derived.Test.YtdipoaekdafbeaaCtListV
import Derived.Test.YtdipoaekdafbeaaLbRight
namespace Go.Proofs.Ytdipoaekdafbeaa
open Go.RowKit Go.Maps
set_option maxRecDepth 100000
set_option linter.unusedVariables false
open D

theorem L.zero31v (z : Int) : (#[.int .i64 z, .int .u8 0, .int .u8 0, .int .u8 0, .int .u8 0, .int .u8 0, .int .u8 0, .int .u8 0, .int .u8 0, .int .u8 0, .int .u8 0, .int .u8 0, .int .u8 0, .int .u8 0, .int .u8 0, .int .u8 0, .int .u8 0, .int .u8 0, .int .u8 0, .int .u8 0, .int .u8 0, .int .u8 0, .int .u8 0, .int .u8 0, .int .u8 0, .int .u8 0, .int .u8 0, .int .u8 0, .int .u8 0, .int .u8 0, .int .u8 0] : Array Value) = L.lv z 0 := by
  show _ = #[.int .i64 z] ++ C.cv 0
  rw [← C.zero30]
  simp
theorem step_opw {P : Program} {ops : Array Oper} {rest : List Oper} {o : Oper} {a : Act} {w w' : World} {Q : Exit → Act → World → Prop} {v : Value} (hgd : Region.wanted o (yielded ops a.tmps) = true) (hr : (execOp a.eval o).run P w = .ok (.value v) w') (h : wpList P ops Q rest (a.put o.dst v) w') : wpList P ops Q (o :: rest) a w := by
  unfold wpList
  rw [if_pos hgd]
  refine .inl ?_
  unfold Oper.wp
  rw [hr]
  exact h

namespace D
theorem okL_false (b : Bool) (ct : Pairs) (ks : List Int) (k : Nat) (h : k < ks.length) (hf : tok b ct (ks.getD k 0) = false) : okL b ct ks = false := by
  unfold okL
  rw [List.all_eq_false]
  refine ⟨ks.getD k 0, ?_, by rw [hf]; simp⟩
  rw [List.getD_eq_getElem?_getD, List.getElem?_eq_getElem h]
  exact List.getElem_mem h
theorem okL_take (b : Bool) (ct : Pairs) (ks : List Int) (k : Nat) (h : k < ks.length) : okL b ct (ks.take (k + 1)) = (okL b ct (ks.take k) && tok b ct (ks.getD k 0)) := by
  rw [C.getD_take ks k h, okL_snoc]
theorem setL_take (b : Bool) (ct : Pairs) (ks : List Int) (k : Nat) (h : k < ks.length) : setL b ct (ks.take (k + 1)) = C.put (setL b ct (ks.take k)) (num1 b ct (ks.getD k 0)) true := by
  rw [C.getD_take ks k h, setL_snoc]
theorem list_at (n k : Nat) (h : k < (C.list n).length) : 0 ≤ (C.list n).getD k 0 ∧ (C.list n).getD k 0 < 240 := by
  have hm : (C.list n).getD k 0 ∈ C.list n := by
    rw [List.getD_eq_getElem?_getD, List.getElem?_eq_getElem h]
    exact List.getElem_mem h
  obtain ⟨j, hj, e, _⟩ := (mem_list n _).1 hm
  omega
theorem list_len (n : Nat) : (C.list n).length ≤ 240 := by
  have := C.listTo_len n 240
  unfold intsV at this
  rwa [List.length_map] at this
theorem put_plus (m : Nat) (z : Int) : C.plus m [z] = C.put m z true := by simp [C.plus, C.put]
end D

/-- The three variables that a telling begins with. -/
structure TB (w : World) (B : Nat) (d : Dm) (z : Int) (n : Nat) : Prop where
  dm : w.heap[B]? = some (.cells d.v 25 (0, 0))
  la : LabAt w (B + 1) z n
  rs : LabAt w (B + 1 + 1) 0 0
  ok : DOk w d
theorem TB.below {w w' : World} {B : Nat} {d : Dm} {z : Int} {n : Nat} (h : TB w B d z n) (hb : Below w.heap.size w w') : TB w' B d z n :=
  ⟨(hb.block B (heap_lt h.dm)).trans h.dm, h.la.below hb h.la.lt, h.rs.below hb h.rs.lt, h.ok.below hb⟩
theorem TB.k0 {w : World} {B : Nat} {d : Dm} {z : Int} {n : Nat} (h : TB w B d z n) : w.cell? ⟨B, 0, none⟩ = some (.int .u32 d.num) := (cell_of_row w B 0 _ _ (0, 0) h.dm).trans rfl
theorem TB.k1 {w : World} {B : Nat} {d : Dm} {z : Int} {n : Nat} (h : TB w B d z n) : w.cell? ⟨B, 1, none⟩ = some (.slice d.la d.lv.length d.lc) := (cell_of_row w B 1 _ _ (0, 0) h.dm).trans rfl
theorem TB.k2 {w : World} {B : Nat} {d : Dm} {z : Int} {n : Nat} (h : TB w B d z n) : w.cell? ⟨B, 2, none⟩ = some (.slice d.ca d.ct.length d.cc) := (cell_of_row w B 2 _ _ (0, 0) h.dm).trans rfl
theorem vs12 (vs : List Value) (h : vs.length = 12) : ∃ v0 v1 v2 v3 v4 v5 v6 v7 v8 v9 v10 v11, vs = [v0, v1, v2, v3, v4, v5, v6, v7, v8, v9, v10, v11] := by
  obtain ⟨v0, r0, rfl, h0⟩ := LbLow.vs_cons vs h
  obtain ⟨v1, r1, rfl, h1⟩ := LbLow.vs_cons r0 h0
  obtain ⟨v2, r2, rfl, h2⟩ := LbLow.vs_cons r1 h1
  obtain ⟨v3, r3, rfl, h3⟩ := LbLow.vs_cons r2 h2
  obtain ⟨v4, r4, rfl, h4⟩ := LbLow.vs_cons r3 h3
  obtain ⟨v5, r5, rfl, h5⟩ := LbLow.vs_cons r4 h4
  obtain ⟨v6, r6, rfl, h6⟩ := LbLow.vs_cons r5 h5
  obtain ⟨v7, r7, rfl, h7⟩ := LbLow.vs_cons r6 h6
  obtain ⟨v8, r8, rfl, h8⟩ := LbLow.vs_cons r7 h7
  obtain ⟨v9, r9, rfl, h9⟩ := LbLow.vs_cons r8 h8
  obtain ⟨v10, r10, rfl, h10⟩ := LbLow.vs_cons r9 h9
  obtain ⟨v11, r11, rfl, h11⟩ := LbLow.vs_cons r10 h10
  obtain rfl := List.eq_nil_of_length_eq_zero h11
  exact ⟨v0, v1, v2, v3, v4, v5, v6, v7, v8, v9, v10, v11, rfl⟩

/-- What a teller's value is as an operation's. -/
def tv (b : Bool) (l : Pairs) (z : Int) (v : Value) (_ : World) : Prop := ∃ c, v = .tuple #[.int .i64 c, .bool (tok b l z)] ∧ (tok b l z = true → c = num1 b l z)
def nv (b : Bool) (l : Pairs) (z : Int) (v : Value) (_ : World) : Prop := ∃ c, v = .int .i64 c ∧ (tok b l z = true → c = num1 b l z)

set_option maxHeartbeats 16000000 in
theorem tell_any (b : Bool) (d : Dm) (z : Int) (n : Nat) (w : World) (h : DOk w d) (hn : n < 2 ^ 240) (hz : I64 z) :
    Calls Try.prog 33 #[.agg d.v, .agg (L.lv z n), lookV b] w fun e w' => e = .returned (.tuple #[.agg (L.lv (d.tellZ z n b) (d.tellN z n b)), .int .i64 (d.tellE z n b)]) ∧ Below w.heap.size w w' := by
  have hb0 : Below w.heap.size w (((w.alloc (.cells d.v 25)).alloc (.cells (L.lv z n) 29)).alloc (.cells (L.lv 0 0) 29)) := (((Below.refl _ w).alloc (Nat.le_refl _) _).alloc (by simp) _).alloc (by simp; omega) _
  have hT : TB (((w.alloc (.cells d.v 25)).alloc (.cells (L.lv z n) 29)).alloc (.cells (L.lv 0 0) 29)) w.heap.size d z n := by
    refine ⟨?_, ?_, ?_, h.below hb0⟩
    · have := heap_alloc_new w (.cells d.v 25)
      exact (Below.heap_alloc _ _ _ (by simp; omega)).trans ((Below.heap_alloc _ _ _ (by simp)).trans this)
    · have := LabAt.new (w.alloc (.cells d.v 25)) z n
      have := this.alloc (.cells (L.lv 0 0) 29)
      simpa using this
    · have := LabAt.new ((w.alloc (.cells d.v 25)).alloc (.cells (L.lv z n) 29)) 0 0
      simpa using this
  obtain ⟨E, hE⟩ : ∃ E, d.tellE z n b = E := ⟨_, rfl⟩
  obtain ⟨Z, hZ⟩ : ∃ Z, d.tellZ z n b = Z := ⟨_, rfl⟩
  obtain ⟨N, hN⟩ : ∃ N, d.tellN z n b = N := ⟨_, rfl⟩
  have HE := Lib.hid hE
  have HZ := Lib.hid hZ
  have HN := Lib.hid hN
  rw [hE, hZ, hN]
  clear hE hZ hN
  generalize hlk : lookV b = lk
  have Hlk := Lib.hid hlk
  clear hlk
  have HT := Lib.hid hT
  have hz0 := hb0.size
  have k0 := hT.k0
  have k1 := hT.k1
  have k2 := hT.k2
  have hdv := Lib.hid (show d.v = #[.int .u32 d.num, .slice d.la d.lv.length d.lc, .slice d.ca d.ct.length d.cc] from rfl)
  rw [hdv.out]
  have hb0' := hb0
  rw [hdv.out] at k0 k1 k2 HT hb0'
  clear hT hb0
  go_enter Try.func33, Try.ntmps33
  go_wp2_with (rw [L.zero31])
  generalize hW0 : ((w.alloc (.cells #[.int .u32 d.num, .slice d.la d.lv.length d.lc, .slice d.ca d.ct.length d.cc] 25)).alloc (.cells (L.lv z n) 29)).alloc (.cells (L.lv 0 0) 29) = W0 at *
  have Hsz : Hid (W0.heap.size = w.heap.size + 1 + 1 + 1) := Lib.hid (by rw [← hW0]; simp)
  clear hW0 k0
  have hnew : (W0.alloc (.cells #[.int .u32 d.num, .slice d.la d.lv.length d.lc, .slice d.ca d.ct.length d.cc] 25)).heap[w.heap.size + 1 + 1 + 1]? = some (.cells d.v 25 (0, 0)) := by
    rw [← Hsz.out, hdv.out]; exact heap_alloc_new _ _
  have hbn : Below W0.heap.size W0 (W0.alloc (.cells #[.int .u32 d.num, .slice d.la d.lv.length d.lc, .slice d.ca d.ct.length d.cc] 25)) := (Below.refl _ _).alloc (Nat.le_refl _) _
  have HR := Lib.hid (DRight_any _ 1 [d] _ (DRow.one hnew) (by simp) (fun k hk => by
    obtain rfl : k = 0 := by simp at hk; omega
    exact HT.out.ok.below hbn))
  have hall : allR [d] = d.right := by simp [allR]
  rw [hall] at HR
  refine HR.out.mono ?_
  rintro e w1 ⟨rfl, hb1⟩
  have hb01 := hbn.trans (hb1.mono hbn.size)
  have HT1 := Lib.hid (HT.out.below hb01)
  have hbw1 := hb0'.trans (hb01.mono hb0'.size)
  have hz1 := hbw1.size
  have k1 := HT1.out.k1
  have k2 := HT1.out.k2
  clear HR hnew hbn hb1 hall hb01 HT hb0' hz0 Hsz
  cases hr : d.right
  · have GE : Hid (E = 1) := Lib.hid (by rw [← HE.out]; unfold Dm.tellE; rw [hr]; rfl)
    have GZ : Hid (Z = 0) := Lib.hid (by rw [← HZ.out]; unfold Dm.tellZ; rw [hr]; rfl)
    have GN : Hid (N = 0) := Lib.hid (by rw [← HN.out]; unfold Dm.tellN; rw [hr]; rfl)
    go_wp2_with (rw [L.zero31]; refine store_lab rfl rfl rfl rfl HT1.out.rs ?_; intro w9 hs ho; have HS9 := Lib.hid hs; have HO9 := Lib.hid ho; clear hs ho)
    exact ret_lab_tmp rfl rfl rfl rfl HS9.out ⟨by rw [GE.out, GZ.out, GN.out]; rfl, hbw1.trans (HO9.out.below (by omega))⟩
  · have HLR := Lib.hid (fun (r : Nat) (w' : World) (h : w'.heap[r]? = some (.cells (labsX [(z, n)]) 29 (0, 0))) => Right_any (some ⟨r, 0, none⟩) 1 [(z, n)] w' (LRow.of_block h) (by simp))
    have hlr : L.rightL [(z, n)] = lr z := by simp [L.rightL, lr]
    rw [hlr] at HLR
    go_wp2_with (first | (refine load_lab rfl rfl rfl HT1.out.la ?_) | (refine step_opw rfl (run_op_labs [(z, n)] rfl (by simp [Act.eval, Act.put, labV]) rfl (by simp) (by simp)) ?_))
    refine (HLR.out _ _ (heap_alloc_new w1 _)).mono ?_
    rintro e w2 ⟨rfl, hb2⟩
    have hb12 : Below w1.heap.size w1 w2 := ((Below.refl _ w1).alloc (Nat.le_refl _) (.cells (labsX [(z, n)]) 29)).trans (hb2.mono (by simp))
    have HT2 := Lib.hid (HT1.out.below hb12)
    have hbw2 := hbw1.trans (hb12.mono hz1)
    have hz2 := hbw2.size
    have k1 := HT2.out.k1
    have k2 := HT2.out.k2
    clear hb2 hb12 HT1 hbw1 hz1 HLR hlr
    cases hl : lr z
    · have GE : Hid (E = 1) := Lib.hid (by rw [← HE.out]; unfold Dm.tellE; rw [hr, hl]; rfl)
      have GZ : Hid (Z = 0) := Lib.hid (by rw [← HZ.out]; unfold Dm.tellZ; rw [hr, hl]; rfl)
      have GN : Hid (N = 0) := Lib.hid (by rw [← HN.out]; unfold Dm.tellN; rw [hr, hl]; rfl)
      go_wp2_with (rw [L.zero31]; refine store_lab rfl rfl rfl rfl HT2.out.rs ?_; intro w9 hs ho; have HS9 := Lib.hid hs; have HO9 := Lib.hid ho; clear hs ho)
      exact ret_lab_tmp rfl rfl rfl rfl HS9.out ⟨by rw [GE.out, GZ.out, GN.out]; rfl, hbw2.trans (HO9.out.below (by omega))⟩
    · go_wp2
      have hR := hr
      unfold Dm.right at hR
      rw [Bool.and_eq_true, decide_eq_true_eq, decide_eq_true_eq] at hR
      have hP1 := Lib.hid hR.1
      have hP2 := Lib.hid hR.2
      have hzz : 0 ≤ z := by
        unfold lr at hl
        rw [Bool.and_eq_true, decide_eq_true_eq] at hl
        exact hl.1
      have HTE : Hid (∀ w', Below w2.heap.size w2 w' → Calls Try.prog 53 #[.slice d.la d.lv.length d.lc, lk] w' fun e w'' => ∃ v, e = .returned v ∧ IsTell d.la d.lc d.lv b v w'' ∧ Below w'.heap.size w' w'') := Lib.hid (fun w' hS => by
        rw [← Hlk.out]
        exact teller_any b d.la d.lc d.lv w' (HT2.out.below hS).ok.lr HT2.out.ok.ln HT2.out.ok.lw)
      clear hR k1 k2
      refine region_gen (VG w2.heap.size [.val (.pointer (some ⟨w.heap.size, 1, none⟩)), .val (.slice d.la d.lv.length d.lc), .val lk, .pr (IsTell d.la d.lc d.lv b) (fun _ _ _ h hb => h.below hb), .val (.pointer (some ⟨w.heap.size + 1, 0, none⟩)), .val (.int .i64 z), .pr (tv b d.lv z) (fun _ _ _ h _ => h), .pr (tv b d.lv z) (fun _ _ _ h _ => h), .pr (nv b d.lv z) (fun _ _ _ h _ => h), .val (.bool (tok b d.lv z)), .pr (nv b d.lv z) (fun _ _ _ h _ => h), .val (.bool (tok b d.lv z))]) (BS w2) (by kernel_rfl) (by kernel_rfl) (Below.refl _ _).drew ⟨?_, ?_, ?_, ?_, ?_, ?_, ?_, ?_, ?_, ?_, ?_, ?_, trivial⟩ ?_
      · go_light; intro listed a' w' hs hS hun hdep
        have e3 : a'.eval (.tmp 3) = .pointer (some ⟨w.heap.size, 0, none⟩) := (hs.out 3 (by kernel_rfl)).trans (rfl)
        refine g_val (.pointer (some ⟨w.heap.size, 1, none⟩)) hS rfl ?_ rfl
        have hcn := BigFrame.eval_const a'; have hfn := BigFrame.eval_func a'; clear hs hdep; generalize a'.eval = ev at *; go_simp
      · go_light; intro listed a' w' hs hS hun hdep
        have e28 : a'.eval (.tmp 28) = .pointer (some ⟨w.heap.size, 1, none⟩) := hs.eval 0 _ 28 rfl (hdep ⟨0, .data⟩ (by simp) rfl) rfl
        have kk := (HT2.out.below hS).k1
        refine g_val (.slice d.la d.lv.length d.lc) hS rfl ?_ rfl
        have hcn := BigFrame.eval_const a'; have hfn := BigFrame.eval_func a'; clear hs hdep; generalize a'.eval = ev at *; go_simp
      · go_light; intro listed a' w' hs hS hun hdep
        have e2 : a'.eval (.tmp 2) = lk := (hs.out 2 (by kernel_rfl)).trans (rfl)
        refine g_val (lk) hS rfl ?_ rfl
        have hcn := BigFrame.eval_const a'; have hfn := BigFrame.eval_func a'; clear hs hdep; generalize a'.eval = ev at *; go_simp
      · go_light; intro listed a' w' hs hS hun hdep
        have e29 : a'.eval (.tmp 29) = .slice d.la d.lv.length d.lc := hs.eval 1 _ 29 rfl (hdep ⟨1, .data⟩ (by simp) rfl) rfl
        have e30 : a'.eval (.tmp 30) = lk := hs.eval 2 _ 30 rfl (hdep ⟨2, .data⟩ (by simp) rfl) rfl
        refine g_call 53 #[.slice d.la d.lv.length d.lc, lk] hS rfl ?_ ?_
        · have hcn := BigFrame.eval_const a'; have hfn := BigFrame.eval_func a'; clear hs hdep; generalize a'.eval = ev at *; go_simp
        · exact (HTE.out w' hS).mono fun e w'' ⟨v, he, ht, hb⟩ => ⟨v, he, ht, hb⟩
      · go_light; intro listed a' w' hs hS hun hdep
        have e4 : a'.eval (.tmp 4) = .pointer (some ⟨w.heap.size + 1, 0, none⟩) := (hs.out 4 (by kernel_rfl)).trans (rfl)
        refine g_val (.pointer (some ⟨w.heap.size + 1, 0, none⟩)) hS rfl ?_ rfl
        have hcn := BigFrame.eval_const a'; have hfn := BigFrame.eval_func a'; clear hs hdep; generalize a'.eval = ev at *; go_simp
      · go_light; intro listed a' w' hs hS hun hdep
        have e32 : a'.eval (.tmp 32) = .pointer (some ⟨w.heap.size + 1, 0, none⟩) := hs.eval 4 _ 32 rfl (hdep ⟨4, .data⟩ (by simp) rfl) rfl
        have kk := (HT2.out.below hS).la.level
        refine g_val (.int .i64 z) hS rfl ?_ rfl
        have hcn := BigFrame.eval_const a'; have hfn := BigFrame.eval_func a'; clear hs hdep; generalize a'.eval = ev at *; go_simp
      · go_light; intro listed a' w' hs hS hun hdep
        have r31 : (.pr (IsTell d.la d.lc d.lv b) (fun _ _ _ h hb => h.below hb) : GV).ok w2.heap.size (a'.eval (.tmp 31)) w' := hs.eval 3 _ 31 rfl (hdep ⟨3, .data⟩ (by simp) rfl) rfl
        have e33 : a'.eval (.tmp 33) = .int .i64 z := hs.eval 5 _ 33 rfl (hdep ⟨5, .data⟩ (by simp) rfl) rfl
        obtain ⟨p1, p2, g, m, e31, ht⟩ := r31
        unfold tellV at e31
        refine g_call 58 #[.int .i64 z, .pointer (some ⟨p1, 0, none⟩), .pointer (some ⟨p2, 0, none⟩)] hS rfl ?_ ?_
        · have hcn := BigFrame.eval_const a'; have hfn := BigFrame.eval_func a'; clear hs hdep; generalize a'.eval = ev at *; go_simp
        · exact (tellone_any b d.la d.lc d.lv p1 p2 g m z w' ht HT2.out.ok.ln hP1.out hz hzz).mono fun e w'' ⟨c, he, hc, hb⟩ => ⟨_, he, ⟨c, rfl, hc⟩, hb⟩
      · go_light; intro listed a' w' hs hS hun hdep
        have r34 : (.pr (tv b d.lv z) (fun _ _ _ h _ => h) : GV).ok w2.heap.size (a'.eval (.tmp 34)) w' := hs.eval 6 _ 34 rfl (hdep ⟨6, .data⟩ (by simp) rfl) rfl
        obtain ⟨c, e34, hc⟩ := r34
        refine g_val (.tuple #[.int .i64 c, .bool (tok b d.lv z)]) hS rfl ?_ ⟨c, rfl, hc⟩
        clear hc
        have hcn := BigFrame.eval_const a'; have hfn := BigFrame.eval_func a'; clear hs hdep; generalize a'.eval = ev at *; go_simp
      · go_light; intro listed a' w' hs hS hun hdep
        have r27 : (.pr (tv b d.lv z) (fun _ _ _ h _ => h) : GV).ok w2.heap.size (a'.eval (.tmp 27)) w' := hs.eval 7 _ 27 rfl (hdep ⟨7, .data⟩ (by simp) rfl) rfl
        obtain ⟨c, e27, hc⟩ := r27
        refine g_val (.int .i64 c) hS rfl ?_ ⟨c, rfl, hc⟩
        clear hc
        have hcn := BigFrame.eval_const a'; have hfn := BigFrame.eval_func a'; clear hs hdep; generalize a'.eval = ev at *; go_simp
      · go_light; intro listed a' w' hs hS hun hdep
        have r27 : (.pr (tv b d.lv z) (fun _ _ _ h _ => h) : GV).ok w2.heap.size (a'.eval (.tmp 27)) w' := hs.eval 7 _ 27 rfl (hdep ⟨7, .data⟩ (by simp) rfl) rfl
        obtain ⟨c, e27, hc⟩ := r27
        refine g_val (.bool (tok b d.lv z)) hS rfl ?_ rfl
        clear hc
        have hcn := BigFrame.eval_const a'; have hfn := BigFrame.eval_func a'; clear hs hdep; generalize a'.eval = ev at *; go_simp
      · go_light; intro listed a' w' hs hS hun hdep
        have r35 : (.pr (nv b d.lv z) (fun _ _ _ h _ => h) : GV).ok w2.heap.size (a'.eval (.tmp 35)) w' := hs.eval 8 _ 35 rfl (hdep ⟨8, .data⟩ (by simp) rfl) rfl
        obtain ⟨c, e35, hc⟩ := r35
        refine g_val (.int .i64 c) hS rfl ?_ ⟨c, rfl, hc⟩
        clear hc
        have hcn := BigFrame.eval_const a'; have hfn := BigFrame.eval_func a'; clear hs hdep; generalize a'.eval = ev at *; go_simp
      · go_light; intro listed a' w' hs hS hun hdep
        have e36 : a'.eval (.tmp 36) = .bool (tok b d.lv z) := hs.eval 9 _ 36 rfl (hdep ⟨9, .data⟩ (by simp) rfl) rfl
        refine g_val (.bool (tok b d.lv z)) hS rfl ?_ rfl
        have hcn := BigFrame.eval_const a'; have hfn := BigFrame.eval_func a'; clear hs hdep; generalize a'.eval = ev at *; go_simp
      · intro vs w3 hlen hV listed hall hS
        obtain ⟨v0, v1, v2, v3, v4, v5, v6, v7, v8, v9, v10, v11, rfl⟩ := vs12 vs (hlen.trans rfl)
        have q0 : v0 = .pointer (some ⟨w.heap.size, 1, none⟩) := hV 0 _ rfl
        have q1 : v1 = .slice d.la d.lv.length d.lc := hV 1 _ rfl
        have q2 : lk = v2 := (hV 2 _ rfl : v2 = lk).symm
        obtain ⟨y1, y2, y3, y4, q3, _⟩ : IsTell d.la d.lc d.lv b v3 w3 := hV 3 _ rfl
        have q4 : v4 = .pointer (some ⟨w.heap.size + 1, 0, none⟩) := hV 4 _ rfl
        have q5 : v5 = .int .i64 z := hV 5 _ rfl
        obtain ⟨c6, q6, _⟩ : tv b d.lv z v6 w3 := hV 6 _ rfl
        obtain ⟨c7, q7, _⟩ : tv b d.lv z v7 w3 := hV 7 _ rfl
        obtain ⟨c8, q8, hc8⟩ : nv b d.lv z v8 w3 := hV 8 _ rfl
        have q9 : v9 = .bool (tok b d.lv z) := hV 9 _ rfl
        obtain ⟨c10, q10, hc10⟩ : nv b d.lv z v10 w3 := hV 10 _ rfl
        have q11 : v11 = .bool (tok b d.lv z) := hV 11 _ rfl
        have hbel : Below w2.heap.size w2 w3 := hS
        subst q0 q1 q2 q3 q4 q5 q6 q7 q8 q9 q10 q11
        clear hV hS hall hc8
        simp only [lays, Act.put, List.setIfInBounds_toArray, List.set_cons_zero, List.set_cons_succ]
        have HT3 := Lib.hid (HT2.out.below hbel)
        have hbw3 := hbw2.trans (hbel.mono hz2)
        have hz3 := hbw3.size
        have HTE2 : Hid (Calls Try.prog 53 #[.slice d.ca d.ct.length d.cc, lk] w3 fun e w'' => ∃ v, e = .returned v ∧ IsTell d.ca d.cc d.ct b v w'' ∧ Below w3.heap.size w3 w'') := Lib.hid (by
          rw [← Hlk.out]
          exact teller_any b d.ca d.cc d.ct w3 HT3.out.ok.cr HT3.out.ok.cn HT3.out.ok.cw)
        have k2 := HT3.out.k2
        clear hbel hbw2 hz2 HT2 HTE
        cases ht : tok b d.lv z
        · have GE : Hid (E = 6) := Lib.hid (by rw [← HE.out]; unfold Dm.tellE Dm.fit; rw [hr, hl, ht]; rfl)
          have GZ : Hid (Z = 0) := Lib.hid (by rw [← HZ.out]; unfold Dm.tellZ Dm.fit; rw [hr, hl, ht]; rfl)
          have GN : Hid (N = 0) := Lib.hid (by rw [← HN.out]; unfold Dm.tellN Dm.fit; rw [hr, hl, ht]; rfl)
          go_wp2_with (rw [L.zero31]; refine store_lab rfl rfl rfl rfl HT3.out.rs ?_; intro w9 hs ho; have HS9 := Lib.hid hs; have HO9 := Lib.hid ho; clear hs ho)
          exact ret_lab_tmp rfl rfl rfl rfl HS9.out ⟨by rw [GE.out, GZ.out, GN.out]; rfl, hbw3.trans (HO9.out.below (by omega))⟩
        · have hcz := hc10 ht
          have Hcz := Lib.hid hcz
          clear hcz hc10
          go_wp2_with fail
          refine HTE2.out.mono ?_
          rintro e w4 ⟨v, rfl, ⟨p1, p2, g, m, rfl, hta⟩, hb4⟩
          have HT4 := Lib.hid (HT3.out.below hb4)
          have hbw4 := hbw3.trans (hb4.mono hz3)
          have hz4 := hbw4.size
          have HTA := Lib.hid hta
          have HN4 := Lib.hid (LabAt.new w4 0 0)
          have hbn4 : Below w4.heap.size w4 (w4.alloc (.cells (L.lv 0 0) 29)) := (Below.refl _ _).alloc (Nat.le_refl _) _
          clear hta hb4 HTE2 HT3 hbw3 hz3 k2
          unfold tellV
          go_wp2_with (first | (rw [L.zero31, L.zero31v]; refine store_lab rfl rfl rfl rfl HN4.out ?_; intro w5 hs ho; have HS5 := Lib.hid hs; have hb5 := hbn4.trans (ho.below (Nat.le_refl _)); have HT5 := Lib.hid (HT4.out.below hb5); have hl5 := hs.lt; clear hs ho) | (refine load_labcats rfl rfl rfl HT5.out.la ?_))
          refine (List_vbuf n _).mono ?_
          rintro e w6 ⟨ao, cp, rfl, hbuf6, hb6⟩
          have HS6 := Lib.hid (HS5.out.below hb6 hl5)
          have hb46 : Below w4.heap.size w4 w6 := hb5.trans (hb6.mono hb5.size)
          have HB6 : Hid (VBuf 3 (w4.heap.size + 1) ao cp (intsV (C.list n)) w6) := Lib.hid (by
            have h1 : w4.heap.size + 1 ≤ w5.heap.size := hl5
            obtain ⟨e1, e2⟩ := hbuf6
            refine ⟨e1, ?_⟩
            rcases e2 with e2 | ⟨g', cap', cur, f1, f2, f3⟩
            · exact .inl e2
            · exact .inr ⟨g', cap', cur, f1, by omega, f3⟩)
          have hat := Lib.hid (list_at n)
          have hln := list_len n
          have Hok := Lib.hid (fun k => okL_take b d.ct (C.list n) k)
          have Hof := Lib.hid (fun k => okL_false b d.ct (C.list n) k)
          have Hst := Lib.hid (fun k => setL_take b d.ct (C.list n) k)
          have HEf : Hid (okL b d.ct (C.list n) = false → E = 6 ∧ Z = 0 ∧ N = 0) := Lib.hid (fun hf => by
            refine ⟨?_, ?_, ?_⟩
            · rw [← HE.out]; unfold Dm.tellE Dm.fit; rw [hr, hl, ht, hf]; rfl
            · rw [← HZ.out]; unfold Dm.tellZ Dm.fit; rw [hr, hl, ht, hf]; rfl
            · rw [← HN.out]; unfold Dm.tellN Dm.fit; rw [hr, hl, ht, hf]; rfl)
          have HEt : Hid (okL b d.ct (C.list n) = true → E = 0 ∧ Z = c10 ∧ N = setL b d.ct (C.list n)) := Lib.hid (fun hf => by
            refine ⟨?_, ?_, ?_⟩
            · rw [← HE.out]; unfold Dm.tellE Dm.fit; rw [hr, hl, ht, hf]; rfl
            · rw [← HZ.out]; unfold Dm.tellZ Dm.fit; rw [hr, hl, ht, hf, Hcz.out]; rfl
            · rw [← HN.out]; unfold Dm.tellN Dm.fit; rw [hr, hl, ht, hf]; rfl)
          clear HE HZ HN Hcz hbuf6 hb5 HS5 hl5 HT5 hb6 HN4 hbn4
          have hlen : (intsV (C.list n)).length = (C.list n).length := List.length_map _
          generalize hks : C.list n = ks at *
          clear hks
          generalize num1 b d.lv z = y0
          go_wp2
          go_loopw [50] (fun i wr => ∃ k : Nat, k ≤ ks.length ∧ i = .int .i64 k ∧ okL b d.ct (ks.take k) = true ∧ LabAt wr w4.heap.size c10 (setL b d.ct (ks.take k)) ∧ VBuf 3 (w4.heap.size + 1) ao cp (intsV ks) wr ∧ Below w4.heap.size w4 wr) (fun i _ => ks.length - (intOf i).toNat)
          case atStart => exact ⟨0, Nat.zero_le _, rfl, rfl, by simpa [setL] using HS6.out, HB6.out, hb46⟩
          case round =>
            obtain ⟨k, hk, rfl, hok, hlab, hbuf, hbr⟩ := hrel
            have hrs := hbr.size
            have HLab := Lib.hid hlab
            have HBuf := Lib.hid hbuf
            have Hyes := Lib.hid hok
            have HTr := Lib.hid (HT4.out.below hbr)
            have HTAr := Lib.hid (HTA.out.below hbr)
            clear hok hlab hb46 HS6 HB6
            by_cases hlt : k < ks.length
            · obtain ⟨gl, rfl, hgl, hgs, hcell⟩ := hbuf.at (by rw [hlen]; omega)
              obtain ⟨hx0, hx1⟩ := hat.out k hlt
              have hck := hcell k (.int .i64 (ks.getD k 0)) (by unfold intsV; rw [List.getElem?_map, List.getElem?_eq_getElem hlt, List.getD_eq_getElem?_getD, List.getElem?_eq_getElem hlt]; rfl)
              have Hok1 := Lib.hid (Hok.out k hlt)
              have Hof1 := Lib.hid (Hof.out k hlt)
              have Hst1 := Lib.hid (Hst.out k hlt)
              have hlt' : (k : Int) < (ks.length : Int) := by omega
              have hxi : I64 (ks.getD k 0) := ⟨by omega, by omega⟩
              generalize ks.getD k 0 = x at *
              generalize hm0 : setL b d.ct (ks.take k) = m0 at *
              clear hbuf hcell hm0
              go_wp2_with fail
              refine (tellone_any b d.ca d.cc d.ct p1 p2 g m x _ HTAr.out HTr.out.ok.cn hP2.out hxi hx0).mono ?_
              rintro e w7 ⟨c7, rfl, hc7, hb7⟩
              have HT7 := Lib.hid (HTr.out.below hb7)
              have HL7 := Lib.hid (HLab.out.below hb7 HLab.out.lt)
              have HB7 := Lib.hid (HBuf.out.carry hb7)
              have hbr7 := hbr.trans (hb7.mono hrs)
              have hz7 := hbr7.size
              clear hb7 HTr HTAr HLab HBuf hck
              cases hx : tok b d.ct x
              · obtain ⟨GE, GZ, GN⟩ := HEf.out (Hof1.out hx)
                have GE := Lib.hid GE
                have GZ := Lib.hid GZ
                have GN := Lib.hid GN
                clear hc7
                go_wp2_with (rw [L.zero31]; refine store_lab rfl rfl rfl rfl HT7.out.rs ?_; intro w9 hs ho; have HS9 := Lib.hid hs; have HO9 := Lib.hid ho; clear hs ho)
                exact ret_lab_tmp rfl rfl rfl rfl HS9.out ⟨by rw [GE.out, GZ.out, GN.out]; rfl, (hbw4.trans (hbr7.mono hz4)).trans (HO9.out.below (by omega))⟩
              · have hcx := hc7 hx
                have HW := Lib.hid (fun (h : IRow (w7.alloc (.cells #[.int .i64 c7] 3)) (some ⟨w7.heap.size, 0, none⟩) [c7]) => With_any m0 _ 1 [c7] _ h (by simp [maxLen]))
                have hrow : IRow (w7.alloc (.cells #[.int .i64 c7] 3)) (some ⟨w7.heap.size, 0, none⟩) [c7] := fun _ => ⟨w7.heap.size, 0, rfl, by simp, fun j hj => by
                  obtain rfl : j = 0 := by simp at hj; omega
                  simp⟩
                have hbn7 : Below w7.heap.size w7 (w7.alloc (.cells #[.int .i64 c7] 3)) := (Below.refl _ _).alloc (Nat.le_refl _) _
                have HW := Lib.hid (HW.out hrow)
                rw [put_plus] at HW
                have Hst2 : Hid (setL b d.ct (ks.take (k + 1)) = C.put m0 c7 true) := Lib.hid (by rw [Hst1.out, hcx])
                have Hok2 : Hid (okL b d.ct (ks.take (k + 1)) = true) := Lib.hid (by rw [Hok1.out, Hyes.out, hx]; rfl)
                generalize C.put m0 c7 true = m1 at *
                clear hrow hc7 hcx Hst1 Hok1 Hof1 Hyes
                go_wp2_with (refine load_labcats rfl rfl rfl HL7.out ?_)
                refine HW.out.mono ?_
                rintro e w8 ⟨rfl, hb8⟩
                have hb78 : Below w7.heap.size w7 w8 := hbn7.trans (hb8.mono hbn7.size)
                have HL8 := Lib.hid (HL7.out.below hb78 HL7.out.lt)
                have HB8 := Lib.hid (HB7.out.carry hb78)
                have hbr8 := hbr7.trans (hb78.mono hz7)
                clear hb8 hb78 hbn7 HW HL7 HB7 HT7 hbr7
                go_wp2_with (refine store_labcats rfl rfl rfl rfl HL8.out ?_; intro w9 hs ho; have HS9 := Lib.hid hs; have HO9 := Lib.hid ho; clear hs ho)
                go_roundw
                case rel => exact ⟨k + 1, by omega, by go_num, Hok2.out, by rw [Hst2.out]; exact HS9.out, HB8.out.kept ⟨HO9.out.os, HO9.out.tape, HO9.out.output, Nat.le_of_eq HO9.out.size.symm, fun j _ hne => HO9.out.block j (fun e => hne (by rw [e]))⟩ (.inr (fun e => by have := HB8.out.own _ e; omega)), hbr8.trans (HO9.out.below (Nat.le_refl _))⟩
                case measure => simp [intOf]; omega
            · obtain rfl : k = ks.length := by omega
              rw [List.take_length] at HLab Hyes
              have GG := Lib.hid (HEt.out Hyes.out)
              have GE := Lib.hid GG.out.1
              have GZ := Lib.hid GG.out.2.1
              have GN := Lib.hid GG.out.2.2
              have hlt' : ¬ (ks.length : Int) < (ks.length : Int) := by omega
              clear hbuf HBuf
              go_wp2_with (first | (refine load_lab rfl rfl rfl HLab.out ?_) | (refine store_lab rfl rfl rfl rfl HTr.out.rs ?_; intro w9 hs ho; have HS9 := Lib.hid hs; have HO9 := Lib.hid ho; clear hs ho))
              exact ret_lab_tmp rfl rfl rfl rfl HS9.out ⟨by rw [GE.out, GZ.out, GN.out]; rfl, (hbw4.trans (hbr.mono hz4)).trans (HO9.out.below (by omega))⟩
#print axioms tell_any
end Go.Proofs.Ytdipoaekdafbeaa
