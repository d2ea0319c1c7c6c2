/- The walk of the places along a prefix. -/
import Derived.Test.YtpepjmcglglepaaTrLow
namespace Go.Proofs.Ytpepjmcglglepaa
open Go.RowKit
set_option maxRecDepth 100000
set_option linter.unusedVariables false
open R

theorem Try.info_int : (Try.prog.info? 3).map (fun i => (i.zero, i.size, i.bytes)) = some (some (.int .i64 0), 1, 8) := by kernel_rfl
/-- Numbers in a row, to be read. -/
def PRow (base : Nat) (w : World) (ao : Option Addr) (ps : List Nat) : Prop := ∃ b, ao = some ⟨b, 0, none⟩ ∧ base ≤ b ∧ b < w.heap.size ∧ ∀ k, k < ps.length → w.cell? ⟨b, k, none⟩ = some (.int .i64 (ps.getD k 0 : Nat))
theorem Own.prow {base : Nat} {ao : Option Addr} {cap : Nat} {ps : List Nat} {w : World} (h : Own base 3 1 ao cap ps.length (natsX ps) w) (h0 : 0 < ps.length) : PRow base w ao ps := by
  obtain ⟨g, cur, rfl, hbg, hg, hc⟩ := h.at h0
  exact ⟨g, rfl, hbg, heap_lt hg, fun k hk => hc k _ (natsX_get ps k hk)⟩
theorem PRow.mono {B base : Nat} {w : World} {ao : Option Addr} {ps : List Nat} (h : PRow base w ao ps) (hb : B ≤ base) : PRow B w ao ps := by
  obtain ⟨b, h1, h2, h3⟩ := h
  exact ⟨b, h1, Nat.le_trans hb h2, h3⟩
theorem PRow.below {base : Nat} {w w' : World} {ao : Option Addr} {ps : List Nat} (h : PRow base w ao ps) (hb : Below w.heap.size w w') : PRow base w' ao ps := by
  obtain ⟨b, h1, h0, h2, h3⟩ := h
  exact ⟨b, h1, h0, Nat.lt_of_lt_of_le h2 hb.size, fun k hk => (hb.cell (p := ⟨b, k, none⟩) h2).trans (h3 k hk)⟩
theorem own_one (base n : Nat) (w : World) (hb : base ≤ w.heap.size) : Own base 3 1 (some ⟨w.heap.size, 0, none⟩) 1 1 (natsX [n]) (w.alloc (.cells #[.int .i64 n] 3)) :=
  ⟨rfl, .inr ⟨w.heap.size, 1, _, rfl, hb, heap_alloc_new w _, Nat.le_refl _, by decide, rfl, rfl⟩⟩

namespace R
/-- The first places along an address: so many that each lies where it should. -/
structure Some' (pl : Nat → Nat → Option Nat) (a : Nat) (ps : List Nat) : Prop where
  at' : ∀ j, j < ps.length → pl j (hi a j) = some (ps.getD j 0)
theorem Some'.more {pl : Nat → Nat → Option Nat} {a : Nat} {ps : List Nat} (h : Some' pl a ps) {x : Nat} (hx : pl ps.length (hi a ps.length) = some x) : Some' pl a (ps ++ [x]) := by
  refine ⟨fun j hj => ?_⟩
  rw [List.length_append] at hj
  by_cases e : j = ps.length
  · subst e
    rw [hx, List.getD_eq_getElem?_getD, List.getElem?_append_right (Nat.le_refl _)]
    simp
  · have hj' : j < ps.length := by simp at hj; omega
    rw [h.at' j hj', List.getD_eq_getElem?_getD, List.getD_eq_getElem?_getD, List.getElem?_append_left hj']
end R

set_option maxHeartbeats 8000000 in
theorem path_any (X : Nat → Prop) (t : Nat) (st : St) (rs : List Rt) (pl : Nat → Nat → Option Nat) (a n : Nat) (w : World) (h : TreeAt X w t st) (hR : Rep st rs pl) (hn : n ≤ 32) (ha : a < 4294967296) (hl : st.nodes.length ≤ 1000000) :
    Calls Try.prog 21 #[.pointer (some ⟨t, 0, none⟩), .agg #[.int .u32 a, .int .i64 n]] w fun e w' => ∃ ao cap ps, e = .returned (.slice ao ps.length cap) ∧ PRow w.heap.size w' ao ps ∧ Path pl a n ps ∧ Below w.heap.size w w' := by
  obtain ⟨bn, cn, af, cf, hr⟩ := h.read hR.zero
  have HT := Lib.hid hr
  have HR := Lib.hid hR
  have Ha := Lib.hid ha
  have HO : Hid (Own w.heap.size 3 1 (some ⟨w.heap.size + 1, 0, none⟩) 1 1 (natsX [0]) ((w.alloc (.cells #[.int .u32 a, .int .i64 n] 29)).alloc (.cells #[.int .i64 0] 3))) := Lib.hid (by
    have := own_one w.heap.size 0 (w.alloc (.cells #[.int .u32 a, .int .i64 n] 29)) (by simp)
    rw [show (w.alloc (.cells #[.int .u32 a, .int .i64 n] 29)).heap.size = w.heap.size + 1 from by simp] at this
    exact this)
  have H0 : Hid (Some' pl a [0]) := Lib.hid ⟨fun j hj => by
    obtain rfl : j = 0 := by simp at hj; omega
    rw [hi_zero _ ha]
    exact hR.root⟩
  have hb0 : Below w.heap.size w ((w.alloc (.cells #[.int .u32 a, .int .i64 n] 29)).alloc (.cells #[.int .i64 0] 3)) := ((Below.refl _ w).alloc (Nat.le_refl _) _).alloc (by simp) _
  clear hr hR h ha
  go_enter Try.func21, Try.ntmps21
  go_wp2
  go_loopw [5, 11] (fun s i wr => ∃ (ps : List Nat) (k m : Nat) (bp cap : Nat), k ≤ n ∧ ps.length = m ∧ Hid (m = k + 1) ∧ i = .int .i64 k ∧ s = .slice (some ⟨bp, 0, none⟩) m cap ∧ Own w.heap.size 3 1 (some ⟨bp, 0, none⟩) cap m (natsX ps) wr ∧ Some' pl a ps ∧ wr.cell? ⟨w.heap.size, 0, none⟩ = some (.int .u32 a) ∧ Below w.heap.size w wr ∧ w.heap.size < wr.heap.size ∧ (∃ cs, wr.heap[w.heap.size]? = some (.cells cs 29 (0, 0)))) (fun _ i _ => n - (intOf i).toNat)
  case atStart => exact ⟨[0], 0, 1, _, _, Nat.zero_le _, rfl, Lib.hid rfl, rfl, rfl, HO.out, H0.out, by simp, hb0, by simp; omega, ⟨_, by rw [Below.heap_alloc _ _ _ (by simp)]; exact heap_alloc_new w _⟩⟩
  case round =>
    obtain ⟨ps, k, m, bp, cap, hk, hps, Hm, rfl, rfl, hown, hat, hp0, hb, hlt0, hcs⟩ := hrel
    have hm1 := Hm.out
    have hT2 := HT.out.below hb
    have k0 := hT2.c0
    by_cases hkn : k < n
    · have hk32 : k ≤ 31 := by omega
      have hpk := hat.at' k (by omega)
      have hil := HR.out.lt _ _ _ hpk
      obtain ⟨g, cur, e1, _, hgh, hgc⟩ := hown.at (by omega)
      obtain rfl : bp = g := by simpa using e1
      have k1 : wr.cell? ⟨bp, k, none⟩ = some (.int .i64 (ps.getD k 0 : Nat)) := hgc k _ (natsX_get ps k (by omega))
      have hbit := A.bit_le a k
      have k2 := hT2.nd _ _ _ hil (Nd.v_ch _ (A.bit a k) hbit)
      have HC := Lib.hid (HR.out.child_some (show k < 32 by omega) hpk)
      generalize hx : ps.getD k 0 = x at *
      generalize (nd st.nodes x).ch (A.bit a k) = y at *
      have HT1 := Lib.hid (fun w' => turn_q a k w' Ha.out hk32)
      generalize A.bit a k = b at *
      clear hT2
      have hlt : (k : Int) < (n : Int) := by omega
      have hkm : (k : Int) < (m : Int) := by omega
      have hxl : (x : Int) < (st.nodes.length : Int) := by omega
      clear hm1
      go_wp2
      go_quiet ((go_at_call 23; refine Calls.quiet_of_same (HT1.out _)))
      have hbW := below_drewN hb nq
      have hownW : Own w.heap.size 3 1 (some ⟨bp, 0, none⟩) cap m (natsX ps) (wr.drewN nq) := hown
      have hp0W : (wr.drewN nq).cell? ⟨w.heap.size, 0, none⟩ = some (.int .u32 a) := hp0
      obtain ⟨cs, hcs⟩ := hcs
      have hcsW : (wr.drewN nq).heap[w.heap.size]? = some (.cells cs 29 (0, 0)) := hcs
      have hlt0W : w.heap.size < (wr.drewN nq).heap.size := hlt0
      clear hb hown hp0 k0 k1 k2 hcs hlt0 hgc hgh HT1
      generalize wr.drewN nq = W at *
      rcases HC.out with ⟨rfl, hnone⟩ | ⟨hy, hsome⟩
      · subst hps
        have hpos : 0 < ps.length := by have := Hm.out; omega
        have HP := Lib.hid (hownW.prow hpos)
        have HQ : Hid (Path pl a n ps) := Lib.hid ⟨hpos, by have := Hm.out; omega, hat.at', fun h => by rw [Hm.out]; exact hnone⟩
        clear hownW hat hnone HC
        go_wp2
        go_ret
        exact ⟨_, _, ps, rfl, HP.out, HQ.out, hbW⟩
      · have hy0 : ((y : Int) == 0) = false := by rw [beq_eq_false_iff_ne]; omega
        have hm2 : m ≤ 33 := by have := Hm.out; omega
        obtain ⟨ao', cap', w3, hrun, hown3, hg3, hne3⟩ := Own.app1 3 51 _ 1 8 Try.underlying51 Try.info_int rfl (by omega) w.heap.size (some ⟨bp, 0, none⟩) cap m (natsX ps) (W.alloc (.cells #[.int .i64 y] 3)) (World.ownsRow.alloc hownW _) [.int .i64 y] rfl (by intro u hu; obtain rfl := List.mem_singleton.1 hu; rfl) W.heap.size (cells_new W [.int .i64 y] 3) 51 (by omega) (by simp; omega)
        have hb3 : Below w.heap.size w w3 := (hbW.alloc (by omega) _).grown hg3 (by simp; omega) hownW.low
        have hk3 : w3.heap[w.heap.size]? = some (.cells cs 29 (0, 0)) := (hg3.block _ (by simp; omega) (fun e => hownW.away hcsW (by intro cur h; cases h) e.symm)).trans (by rw [Below.heap_alloc _ _ _ hlt0W]; exact hcsW)
        have hp3 : w3.cell? ⟨w.heap.size, 0, none⟩ = some (.int .u32 a) := by
          have e0 := cell_of_row W w.heap.size 0 _ _ (0, 0) hcsW
          have e1 := cell_of_row w3 w.heap.size 0 _ _ (0, 0) hk3
          rw [e1, ← e0]; exact hp0W
        obtain ⟨b3, cur3, rfl, _, _, _⟩ := hown3.at (by omega)
        have hl3 := heap_lt hk3
        have HAt : Hid (Some' pl a (ps ++ [y])) := Lib.hid (hat.more (by rw [hps, Hm.out]; exact hsome))
        have HOwn := Lib.hid hown3
        have Hrun := Lib.hid hrun
        have HK3 := Lib.hid hk3
        clear hownW hat hsome HC hown3 hg3 hne3 hrun hk3 hbW hp0W hcsW
        go_wp2_with (at_builtin; refine listAppend rfl _ _ _ _ rfl _ _ rfl rfl _ _ Hrun.out ?_)
        go_roundw
        case rel => exact ⟨ps ++ [y], k + 1, m + 1, b3, cap', by omega, by rw [List.length_append, hps]; rfl, Lib.hid (by rw [Hm.out]), by go_num, rfl, by rw [natsX_app]; exact HOwn.out, HAt.out, hp3, hb3, hl3, ⟨_, HK3.out⟩⟩
        case measure => simp [intOf]; omega
    · obtain rfl : k = n := by omega
      have hpos : 0 < ps.length := by omega
      subst hps
      have HP := Lib.hid (hown.prow hpos)
      have HQ : Hid (Path pl a k ps) := Lib.hid ⟨hpos, by omega, hat.at', fun h => by omega⟩
      have hge : ¬ (k : Int) < (k : Int) := by omega
      clear hown hat hT2 hm1
      go_wp2
      go_ret
      exact ⟨_, _, ps, rfl, HP.out, HQ.out, hb⟩
end Go.Proofs.Ytpepjmcglglepaa
