/- The walk of what adds a route. -/
import Derived.Test.YtpepjmcglglepaaTrSet
import Derived.Deep.Light
import Derived.BigRegion
import Derived.Test.YtpepjmcglglepaaQTail
namespace Go.Proofs.Ytpepjmcglglepaa
open Go.RowKit
set_option maxRecDepth 100000
set_option linter.unusedVariables false
open R

theorem cell_below {w w' : World} {b o : Nat} {v : Value} (hb : Below w.heap.size w w') (h : w.cell? ⟨b, o, none⟩ = some v) : w'.cell? ⟨b, o, none⟩ = some v := (World.cell?_of_block (hb.block b (World.block_lt_of_cell? _ _ h))).trans h
theorem TreeAt.cells {X : Nat → Prop} {w : World} {t : Nat} {st : St} (h : TreeAt X w t st) (h0 : 0 < st.nodes.length) : ∃ bn cn af cf, w.cell? ⟨t, 0, none⟩ = some (.slice (some ⟨bn, 0, none⟩) st.nodes.length cn) ∧ w.cell? ⟨t, 1, none⟩ = some (.slice af st.free.length cf) ∧ w.cell? ⟨t, 2, none⟩ = some (.int .i64 st.count) ∧ ∀ o, w.frozen? ⟨t, o, none⟩ = false := by
  obtain ⟨an, cn, af, cf, h1, h2, h3, _⟩ := h
  obtain ⟨bn, cur, rfl, _, hbn, hc⟩ := h2.at h0
  obtain ⟨a, b, c, d⟩ := tree_cells h1
  exact ⟨bn, cn, af, cf, a, b, c, d⟩
/-- A node's cells can be written. -/
theorem TreeAt.nfree {X : Nat → Prop} {w : World} {t bn n cn : Nat} {st : St} (h : TreeAt X w t st) (h0 : 0 < st.nodes.length) (hk : w.cell? ⟨t, 0, none⟩ = some (.slice (some ⟨bn, 0, none⟩) n cn)) (o : Nat) : w.frozen? ⟨bn, o, none⟩ = false := by
  obtain ⟨af, cf, h1, h2, _⟩ := h.at0 hk
  obtain ⟨g, cur, e, _, hbn, _⟩ := h2.at h0
  obtain rfl : bn = g := by simpa using e
  simp [World.frozen?, hbn]

theorem TreeAt.ncell {X : Nat → Prop} {w : World} {t bn n cn : Nat} {st : St} (h : TreeAt X w t st) (hk : w.cell? ⟨t, 0, none⟩ = some (.slice (some ⟨bn, 0, none⟩) n cn)) {i j : Nat} {v : Value} (hi : i < st.nodes.length) (hj : j < 6) (hv : (R.nd st.nodes i).v[j]? = some v) : w.cell? ⟨bn, i * 6 + j, none⟩ = some v := by
  obtain ⟨af, cf, h1, h2, _⟩ := h.at0 hk
  obtain ⟨g, cur, e, _, hbn, hc⟩ := h2.at (by omega)
  obtain rfl : bn = g := by simpa using e
  exact hc _ _ (by rw [nodesX_at _ _ _ hi hj]; exact hv)
theorem TreeAt.drewN {X : Nat → Prop} {w : World} {t : Nat} {st : St} (h : TreeAt X w t st) (k : Nat) : TreeAt X (w.drewN k) t st := h
theorem TreeAt.nne {X : Nat → Prop} {w : World} {t bn n cn b : Nat} {st : St} (h : TreeAt X w t st) (h0 : 0 < st.nodes.length) (hk : w.cell? ⟨t, 0, none⟩ = some (.slice (some ⟨bn, 0, none⟩) n cn)) {O : Obj} (hb : w.heap[b]? = some O) (hO : ∀ cur, O ≠ .cells cur 59 (0, 0)) : bn ≠ b := fun e => by
  obtain ⟨af, cf, h1, h2, _⟩ := h.at0 hk
  obtain ⟨g, cur, e', _, hbn, _⟩ := h2.at h0
  obtain rfl : bn = g := by simpa using e'
  subst e
  rw [hb] at hbn
  exact hO cur (Option.some.inj hbn)
/-- What the loop that adds nodes keeps. -/
structure Grow (X : Nat → Prop) (ws w : World) (g t : Nat) (st : St) (rs : List Rt) (a n m k x : Nat) : Prop where
  ch : Ch X ws w
  rep : ∃ st' pl, TreeAt (Up X ws w) w t st' ∧ Rep st' rs pl ∧ Full pl rs a k ∧ pl k (hi a k) = some x ∧ st'.nodes.length + m ≤ st.nodes.length + k ∧ (∀ j, k < j → j ≤ n → pl j (hi a j) = none)
theorem Up.mono {X : Nat → Prop} {w w1 w2 : World} (h : w1.heap.size ≤ w2.heap.size) (h0 : w.heap.size ≤ w1.heap.size) : ∀ k, Up (Up X w w1) w1 w2 k → Up X w w2 k := fun k hk => by
  rcases hk with (hk | hk) | hk
  · exact .inl hk
  · exact .inr ⟨hk.1, by omega⟩
  · exact .inr ⟨by omega, hk.2⟩
theorem Up.low {X : Nat → Prop} {w w1 : World} : ∀ k, Up X w w1 k → k < w.heap.size → X k := fun k hk hl => by
  rcases hk with hk | hk
  · exact hk
  · omega

set_option maxHeartbeats 4000000 in
theorem Add_ok (X : Nat → Prop) (g : Nat) (st : St) (rs : List Rt) (r : Rt) (w : World) (h : TrieAt X w g st) (hX : ∀ k, X k → k < w.heap.size) (hI : Inv st rs) (hr : A.right r.a r.b = true) (ha : r.a < 4294967296) (hnew : ∀ s ∈ rs, ¬ (s.a = r.a ∧ s.b = r.b)) (hc : rs.length < 256) (hl : st.nodes.length ≤ 800000) :
    Calls Try.prog 7 #[.pointer (some ⟨g, 0, none⟩), Rt.agg r] w fun e w' => e = .returned (.int .i64 0) ∧ Ch X w w' ∧ ∃ st', TrieAt (Up X w w') w' g st' ∧ Inv st' (rs ++ [r]) ∧ st'.nodes.length ≤ st.nodes.length + 32 := by
  obtain ⟨a, b, o⟩ := r
  obtain ⟨n, rfl⟩ : ∃ n : Nat, b = n := ⟨b.toNat, by have := right_bits hr; dsimp only at this; omega⟩
  dsimp only at hr ha hnew
  have hn : n ≤ 32 := by have := right_bits hr; omega
  obtain ⟨pl, hR, hfull⟩ := hI
  have hb0 : Below w.heap.size w (w.alloc (.cells #[.int .u32 a, .int .i64 n, .int .i64 o] 31)) := (Below.refl _ w).alloc (Nat.le_refl _) _
  have HT := Lib.hid (h.below hb0)
  obtain ⟨t, k0, _, ht⟩ := HT.out.ptr
  have HR := Lib.hid hR
  have Hr := Lib.hid hr
  have Ha := Lib.hid ha
  have HB := Lib.hid (RBlk.new w ⟨a, n, o⟩)
  have HX := Lib.hid hX
  have HNew := Lib.hid hnew
  have HFull := Lib.hid hfull
  have HX0 : Hid (X g) := Lib.hid (by obtain ⟨_, _, e, _⟩ := h; exact e)
  clear h hR hr ha hX hnew hfull ht
  show Calls Try.prog 7 #[.pointer (some ⟨g, 0, none⟩), .agg #[.int .u32 a, .int .i64 n, .int .i64 o]] w _
  go_enter Try.func7, Try.ntmps7
  go_wp2_with fail
  refine (made_any g t _ k0).mono ?_
  rintro e w1 ⟨rfl, rfl⟩
  go_wp2_with fail
  refine (right_any a n _ Ha.out).mono ?_
  rintro e w1 ⟨rfl, hb1⟩
  rw [Hr.out]
  have HT1 := Lib.hid (HT.out.below hb1)
  have HB1 := Lib.hid (HB.out.below hb1)
  have k1 := cell_below hb1 k0
  obtain ⟨p0, p1, p2⟩ := HB1.out.cells
  have hbw1 : Below w.heap.size w w1 := hb0.trans (hb1.mono hb0.size)
  clear HT HB k0 hb1 hb0
  dsimp only at p0 p1 p2
  go_wp2_with fail
  refine (Get_any X g st rs pl a n w1 HT1.out HR.out Hr.out Ha.out (by omega)).mono ?_
  rintro e w2 ⟨r', ok, rfl, hget, hb2⟩
  have hok : ok = false := by
    cases ok
    · rfl
    · obtain ⟨e1, e2⟩ := hget.yes rfl
      exact absurd e2 (HNew.out r' e1)
  subst hok
  obtain ⟨rfl, _⟩ := hget.no rfl
  have HT2 := Lib.hid (HT1.out.below hb2)
  have HB2 := Lib.hid (HB1.out.below hb2)
  have hbw2 : Below w.heap.size w w2 := hbw1.trans (hb2.mono hbw1.size)
  clear HT1 HB1 k1 p0 p1 p2 hb2 hget hbw1
  have hb3 : Below w2.heap.size w2 (w2.alloc (.cells #[.int .u32 0, .int .i64 0, .int .i64 0] 31)) := (Below.refl _ _).alloc (Nat.le_refl _) _
  have HT3 := Lib.hid (HT2.out.below hb3)
  have HB3 := Lib.hid (HB2.out.below hb3)
  have hbw3 := hbw2.trans (hb3.mono hbw2.size)
  unfold Rt.agg zR
  dsimp only
  go_upto_region 6 with fail
  clear HT2 HB2 hb3 hbw2
  generalize w2.alloc (.cells #[.int .u32 0, .int .i64 0, .int .i64 0] 31) = w3 at *
  obtain ⟨t3, hblk3, _, ht3⟩ := HT3.out
  have k3 : w3.cell? ⟨g, 0, none⟩ = some (.pointer (some ⟨t3, 0, none⟩)) := (cell_of_row w3 g 0 _ _ (0, 0) hblk3).trans rfl
  have HBlk3 := Lib.hid hblk3
  clear hblk3
  have HTr3 := Lib.hid ht3
  obtain ⟨bn3, cn3, af3, cf3, c0, c1, c2, hfz3⟩ := ht3.cells HR.out.zero
  have hcnt : ((st.count : Int) == 256) = false := by rw [beq_eq_false_iff_ne, HR.out.count]; omega
  obtain ⟨p0, p1, p2⟩ := HB3.out.cells
  dsimp only at p0 p1 p2
  clear ht3 HT3 c0 c1 hfz3
  go_wp2
  go_still_tail 6, (by kernel_rfl)
  change wpList _ _ _ _ _ w3.drew
  have HTr4 : Hid (TreeAt (fun k => X k ∧ k ≠ g) w3.drew t3 st) := HTr3
  have HB4 : Hid (RBlk w3.drew w.heap.size ⟨a, n, o⟩) := HB3
  have k4 : w3.drew.cell? ⟨g, 0, none⟩ = some (.pointer (some ⟨t3, 0, none⟩)) := k3
  have hbw4 := hbw3.drew
  have HBlk4 : Hid (w3.drew.heap[g]? = some (.cells #[.pointer (some ⟨t3, 0, none⟩)] 55 (0, 0))) := HBlk3
  clear HBlk3
  clear HTr3 HB3 k3 hbw3 p0 p1 p2 c2
  generalize w3.drew = w4 at *
  go_wp2_with fail
  refine (path_any _ t3 st rs pl a n w4 HTr4.out HR.out hn Ha.out (by omega)).mono ?_
  rintro e w5 ⟨ao, cap, ps, rfl, hrow, hpath, hb5⟩
  have HTr5 := Lib.hid (HTr4.out.below hb5)
  have HB5 := Lib.hid (HB4.out.below hb5)
  have k5 := cell_below hb5 k4
  have hbw5 := hbw4.trans (hb5.mono hbw4.size)
  have HP := Lib.hid hpath
  have HBlk5 := Lib.hid ((hb5.block g (heap_lt HBlk4.out)).trans HBlk4.out)
  obtain ⟨bp, rfl, _, hbp, hrow⟩ := hrow
  clear HBlk4
  clear HTr4 HB4 k4 hbw4 hb5 hpath
  have hpos := HP.out.pos
  have hple := HP.out.le
  obtain ⟨m, hm⟩ : ∃ m, ps.length = m + 1 := ⟨ps.length - 1, by omega⟩
  have q0 := hrow m (by omega)
  have hat := HP.out.at' m (by omega)
  have HG0 : Hid (Grow (fun k => X k ∧ k ≠ g) w5 w5 g t3 st rs a n m m (ps.getD m 0)) := Lib.hid ⟨Ch.refl _ _, st, pl, HTr5.out.mono fun k hk => .inl hk, HR.out, by
      have := HFull.out.start Ha.out hn HP.out
      rwa [hm] at this, hat, Nat.le_refl _, fun j h1 h2 => HP.out.none_from HR.out hn j (by omega) h2⟩
  generalize ps.getD m 0 = x0 at *
  obtain ⟨p0, p1, p2⟩ := HB5.out.cells
  dsimp only at p0 p1 p2
  rw [hm]
  have hmi : ((m : Int) + 1 - 1) = m := by omega
  have hmn : m ≤ n := by omega
  clear hrow hat hm
  go_wp2
  have hwl5 : w.heap.size < w5.heap.size := heap_lt HB5.out
  have hgw := HX.out g HX0.out
  have hgl5 : g < w5.heap.size := by omega
  go_loopw [8, 9] (fun i p wr => ∃ k x : Nat, m ≤ k ∧ k ≤ n ∧ i = .int .i64 k ∧ p = .int .i64 x ∧ Grow (fun k => X k ∧ k ≠ g) w5 wr g t3 st rs a n m k x) (fun i _ _ => n - (intOf i).toNat)
  case atStart => exact ⟨m, x0, Nat.le_refl _, hmn, rfl, rfl, HG0.out⟩
  case round =>
    clear HG0 q0 HTr5 p0 p1 p2
    obtain ⟨k, x, hmk, hk, rfl, rfl, hG⟩ := hrel
    have hBw : RBlk wr w.heap.size ⟨a, n, o⟩ := (hG.ch.block _ hwl5 (fun e => by have := HX.out _ e.1; omega)).trans HB5.out
    have hkg : wr.cell? ⟨g, 0, none⟩ = some (.pointer (some ⟨t3, 0, none⟩)) := hG.ch.cell k5 (fun e => e.2 rfl)
    obtain ⟨p0, p1, p2⟩ := hBw.cells
    dsimp only at p0 p1 p2
    obtain ⟨st', pl', hT', hR', hF', hat', hlen', hno'⟩ := hG.rep
    have HC := Lib.hid hG.ch
    by_cases hkn : k < n
    · have hkn' : (k : Int) < (n : Int) := by omega
      have hfl := hR'.free_le
      have HT' := Lib.hid hT'
      have HR' := Lib.hid hR'
      have HF' := Lib.hid hF'
      have HAt' := Lib.hid hat'
      have HNo' := Lib.hid hno'
      have HBw := Lib.hid hBw
      have Hhl := Lib.hid hlen'
      have hlen2 : st'.nodes.length ≤ 850000 := by omega
      clear hG hT' hR' hF' hat' hno' hBw hlen'
      go_wp2_with fail
      refine (take_any _ t3 st' wr HT'.out (by omega) (by omega)).mono ?_
      rintro e w6 ⟨rfl, hT6, hC6⟩
      have hk6 := hC6.cell hkg (fun e => (Up.low g e hgl5).2 rfl)
      have hB6 : RBlk w6 w.heap.size ⟨a, n, o⟩ := (hC6.block _ (heap_lt HBw.out) (fun e => by have := HX.out _ (Up.low _ e hwl5).1; omega)).trans HBw.out
      obtain ⟨r0, r1, r2⟩ := hB6.cells
      dsimp only at r0 r1 r2
      obtain ⟨t1, t2, t3', t4, t5, t6⟩ := take_all HR'.out
      have hln := R.take_len st'
      have hxl := HR'.out.lt _ _ _ HAt'.out
      obtain ⟨bn, cn, af, cf, c0, c1, c2, hfz⟩ := hT6.cells (by omega)
      have HT6 := Lib.hid hT6
      have HC6 := Lib.hid hC6
      have HTn := Lib.hid (fun w' => turn_q a k w' Ha.out (by omega))
      have hbit := A.bit_le a k
      have HGr := Lib.hid (HR'.out.grow hbit HAt'.out (by rw [← hi_step a k (by omega)]; exact HNo'.out (k + 1) (by omega) (by omega)))
      have HGf := Lib.hid (HF'.out.grow (x := takeIx st') (by omega))
      have hxl6 : (x : Int) < ((takeSt st').nodes.length : Int) := by omega
      clear hT6 hC6 p0 p1 p2 hkg hB6 t1 t2 t3' t4 t5 t6 c1 c2 hfz
      go_wp2
      refine region_quiet_tail 16 (by kernel_rfl) (by kernel_rfl) ?_
      simp only [List.take_succ_cons, List.take_zero]
      repeat (go_big_quiet_step ((go_at_call 23; refine Calls.quiet_of_same (HTn.out _))))
      refine wpQuiet_nil ?_
      rintro w7 ⟨nq, hw7⟩
      have hC7 : Ch (Up (fun k => X k ∧ k ≠ g) w5 wr) wr w7 := by
        rw [hw7]
        exact HC6.out.trans (Ch.ofBelow (below_drewN (Below.refl _ _) nq) fun _ => False) fun _ h _ => h.elim
      have hT7 : TreeAt (Up (Up (fun k => X k ∧ k ≠ g) w5 wr) wr w7) w7 t3 (takeSt st') := by rw [hw7]; exact HT6.out
      have d0 : w7.cell? ⟨t3, 0, none⟩ = some (.slice (some ⟨bn, 0, none⟩) (takeSt st').nodes.length cn) := by rw [hw7]; exact c0
      have d1 := hT7.ncell d0 (i := x) (by omega) (show A.bit a k < 6 by omega) (Nd.v_ch _ _ hbit)
      have d2 := hT7.nfree (by omega) d0 (x * 6 + A.bit a k)
      have hln7 : bn < w7.heap.size := World.block_lt_of_cell? _ _ d1
      obtain ⟨e1, e2, _⟩ := hT7.setLink d0 (i := x) (b := A.bit a k) (takeIx st') (by omega) hbit
      have hG8 : Hid (Grow (fun k => X k ∧ k ≠ g) w5 (w7.setCell ⟨bn, x * 6 + A.bit a k, none⟩ (.int .i64 (takeIx st' : Nat))) g t3 st rs a n m (k + 1) (takeIx st')) := Lib.hid (by
        have hC8 := hC7.trans e2 fun j hj hjl => Up.low j hj hjl
        refine ⟨HC.out.trans hC8 fun j hj hjl => Up.low j hj hjl, _, _, e1.mono fun j hj => ?_, HGr.out, HGf.out, ?_, ?_, fun j h1 h2 => ?_⟩
        · exact Up.mono (w1 := wr) (by have := hC8.size; simpa using this) HC.out.size j (by
            rcases hj with hj | hj
            · exact .inl hj
            · exact .inr ⟨hj.1, by simp [World.setCell]; exact hj.2⟩)
        · unfold plus
          rw [if_pos ⟨rfl, hi_step a k (by omega)⟩]
        · show ((takeSt st').nodes.set _ _).length + m ≤ _
          rw [List.length_set]
          have := Hhl.out
          omega
        · unfold plus
          rw [if_neg (by omega)]
          exact HNo'.out j (by omega) h2)
      clear hC7 hT7 e1 e2 hw7 r0 r1 r2 c0 HGr HGf HT6 HC6 HTn HC HT' HR' HF' HAt' HNo' HBw Hhl hk6
      simp only [List.drop_succ_cons, List.drop_zero]
      generalize A.bit a k = bt at *
      generalize takeIx st' = ix at *
      go_wp2
      go_roundw
      case rel => exact ⟨k + 1, ix, by omega, by omega, by go_num, rfl, hG8.out⟩
      case measure => simp [intOf]; omega
    · obtain rfl : k = n := by omega
      have hkn' : ¬ (k : Int) < (k : Int) := by omega
      have hxl := hR'.lt _ _ _ hat'
      obtain ⟨bn, cn, af, cf, c0, c1, c2, hfz⟩ := hT'.cells (by omega)
      have hfz2 := hfz 2
      have n2 := hT'.ncell c0 (j := 2) hxl (by omega) rfl
      have n3 := hT'.ncell c0 (j := 3) hxl (by omega) rfl
      have n4 := hT'.ncell c0 (j := 4) hxl (by omega) rfl
      have n5 := hT'.ncell c0 (j := 5) hxl (by omega) rfl
      have f2 := hT'.nfree (by omega) c0 (x * 6 + 2)
      have f3 := hT'.nfree (by omega) c0 (x * 6 + 3)
      have f4 := hT'.nfree (by omega) c0 (x * 6 + 4)
      have f5 := hT'.nfree (by omega) c0 (x * 6 + 5)
      have hne1 := hT'.nne (by omega) c0 hBw (by intro c h; cases h)
      have hne2 : ¬ w.heap.size = bn := fun e => hne1 e.symm
      have hxl6 : (x : Int) < (st'.nodes.length : Int) := by omega
      have HT' := Lib.hid hT'
      have HR' := Lib.hid hR'
      have HF' := Lib.hid hF'
      have HAt' := Lib.hid hat'
      have Hhl := Lib.hid hlen'
      clear hG hT' hR' hF' hat' hno' hBw hlen' hfz
      go_wp2
      go_region
      obtain ⟨e1, e2⟩ := HT'.out.setR c0 true ⟨a, k, o⟩ hxl
      dsimp only at e1 e2
      have E1 : Hid (TreeAt (Up (fun k => X k ∧ k ≠ g) w5 wr) ((((wr.setCell ⟨bn, x * 6 + 2, none⟩ (.bool true)).setCell ⟨bn, x * 6 + 3, none⟩ (.int .u32 a)).setCell ⟨bn, x * 6 + 4, none⟩ (.int .i64 k)).setCell ⟨bn, x * 6 + 5, none⟩ (.int .i64 o)).drew t3 { st' with nodes := st'.nodes.set x { R.nd st'.nodes x with has := true, r := ⟨a, k, o⟩ } }) := Lib.hid e1
      have E2 : Hid (Ch (Up (fun k => X k ∧ k ≠ g) w5 wr) wr ((((wr.setCell ⟨bn, x * 6 + 2, none⟩ (.bool true)).setCell ⟨bn, x * 6 + 3, none⟩ (.int .u32 a)).setCell ⟨bn, x * 6 + 4, none⟩ (.int .i64 k)).setCell ⟨bn, x * 6 + 5, none⟩ (.int .i64 o)).drew) := Lib.hid ⟨e2.os, e2.tape, e2.output, e2.size, e2.block⟩
      have z1 : ((((wr.setCell ⟨bn, x * 6 + 2, none⟩ (.bool true)).setCell ⟨bn, x * 6 + 3, none⟩ (.int .u32 a)).setCell ⟨bn, x * 6 + 4, none⟩ (.int .i64 k)).setCell ⟨bn, x * 6 + 5, none⟩ (.int .i64 o)).drew.heap.size = wr.heap.size := by simp [World.setCell, World.drew]
      clear e1 e2 n2 n3 n4 n5 f2 f3 f4 f5 c1 c2 c0 hfz2 p0 p1 p2 hne1 hne2 HT'
      generalize ((((wr.setCell ⟨bn, x * 6 + 2, none⟩ (.bool true)).setCell ⟨bn, x * 6 + 3, none⟩ (.int .u32 a)).setCell ⟨bn, x * 6 + 4, none⟩ (.int .i64 k)).setCell ⟨bn, x * 6 + 5, none⟩ (.int .i64 o)).drew = W1 at *
      have kg1 := E2.out.cell hkg (fun e => (Up.low g e hgl5).2 rfl)
      obtain ⟨bn1, cn1, af1, cf1, c0, c1, c2, hfz1⟩ := E1.out.cells (by show 0 < (st'.nodes.set _ _).length; rw [List.length_set]; omega)
      have hfz2 := hfz1 2
      dsimp only at c2
      have hcn : (st'.count : Int) + 1 = ((st'.count + 1 : Nat) : Int) := by omega
      have hcb : st'.count < 256 := by rw [HR'.out.count]; exact hc
      obtain ⟨g1, g2⟩ := E1.out.setCount (st'.count + 1)
      have hfin : Hid (Ch X w (W1.setCell ⟨t3, 2, none⟩ (.int .i64 ((st'.count : Int) + 1))) ∧ ∃ s', TrieAt (Up X w (W1.setCell ⟨t3, 2, none⟩ (.int .i64 ((st'.count : Int) + 1)))) (W1.setCell ⟨t3, 2, none⟩ (.int .i64 ((st'.count : Int) + 1))) g s' ∧ R.Inv s' (rs ++ [⟨a, k, o⟩]) ∧ s'.nodes.length ≤ st.nodes.length + 32) := Lib.hid (by
        rw [hcn]
        have hC8 : Ch (fun k => X k ∧ k ≠ g) w5 (W1.setCell ⟨t3, 2, none⟩ (.int .i64 (st'.count + 1 : Nat))) := (HC.out.trans E2.out fun j hj hjl => Up.low j hj hjl).trans g2 fun j hj hjl => Up.low j hj hjl
        have hC9 : Ch X w (W1.setCell ⟨t3, 2, none⟩ (.int .i64 (st'.count + 1 : Nat))) := (Ch.ofBelow hbw5 X).trans hC8 fun j hj _ => hj.1
        refine ⟨hC9, _, ⟨t3, ?_, .inl HX0.out, g1.mono fun j hj => ?_⟩, ⟨_, HR'.out.put (x := ⟨a, k, o⟩) Hr.out Ha.out (by simpa using HAt'.out) (fun s hs he => fun h => HNew.out s hs ⟨h, he⟩), by
          have := HF'.out
          exact Full.put (x := ⟨a, k, o⟩) (by simpa using this) Ha.out⟩, ?_⟩
        · exact (hC8.block g hgl5 (fun e => e.2 rfl)).trans HBlk5.out
        · rcases hj with hj | hj
          · exact ⟨.inl hj.1, hj.2⟩
          · have := hbw5.size
            have := g2.size
            refine ⟨.inr ⟨by omega, ?_⟩, by omega⟩
            simp [World.setCell] at this ⊢
            omega
        · show (st'.nodes.set _ _).length ≤ _
          rw [List.length_set]
          have := Hhl.out
          omega)
      clear hcn
      clear E1 E2 g1 g2 hfz1 c0 c1 HC HR' HF' HAt' Hhl
      go_wp2
      go_ret
      exact ⟨rfl, hfin.out⟩
#print axioms Add_ok
end Go.Proofs.Ytpepjmcglglepaa
