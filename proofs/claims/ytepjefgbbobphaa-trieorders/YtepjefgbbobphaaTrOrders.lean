/- TrieOrders, walked whole. -/
import Derived.Test.YtepjefgbbobphaaTrPrefers
import Derived.Test.YtepjefgbbobphaaTrNil
import Derived.Test.YtepjefgbbobphaaTrSame
namespace Go.Proofs.Ytepjefgbbobphaa
open Go.RowKit
set_option maxRecDepth 100000
set_option linter.unusedVariables false
open R

theorem Try.info_route : (Try.prog.info? 31).map (fun i => (i.zero, i.size, i.bytes)) = some (some (.agg #[.int .u32 0, .int .i64 0, .int .i64 0]), 3, 24) := by kernel_rfl
/-- Routes in a row of the call's own. -/
abbrev RtOwn (base : Nat) (ao : Option Addr) (cap : Nat) (rs : List Rt) (w : World) : Prop := Own base 31 3 ao cap rs.length (routesX rs) w
theorem routesX_at (l : List Rt) (k j : Nat) (hk : k < l.length) (hj : j < 3) : (routesX l)[k * 3 + j]? = (l.getD k zR).v[j]? := by
  rw [routesX, flat_at _ 3 (fun _ => rfl) l k j hk hj, List.getElem?_eq_getElem hk, List.getD_eq_getElem?_getD, List.getElem?_eq_getElem hk]
  rfl
theorem RtOwn.at' {base : Nat} {ao : Option Addr} {cap : Nat} {rs : List Rt} {w : World} (h : RtOwn base ao cap rs w) (k : Nat) (hk : k < rs.length) : ∃ b, ao = some ⟨b, 0, none⟩ ∧ w.cell? ⟨b, k * 3, none⟩ = some (.int .u32 (rs.getD k zR).a) ∧ w.cell? ⟨b, k * 3 + 1, none⟩ = some (.int .i64 (rs.getD k zR).b) ∧ w.cell? ⟨b, k * 3 + 2, none⟩ = some (.int .i64 (rs.getD k zR).o) := by
  obtain ⟨g, cur, rfl, _, hg, hc⟩ := Own.at h (by omega)
  exact ⟨g, rfl, hc _ _ (by have := routesX_at rs k 0 hk (by omega); rw [Nat.add_zero] at this; exact this), hc _ _ (routesX_at rs k 1 hk (by omega)), hc _ _ (routesX_at rs k 2 hk (by omega))⟩
theorem append_route (base : Nat) (ao : Option Addr) (cap : Nat) (rs : List Rt) (r : Rt) (w : World) (h : RtOwn base ao cap rs w) (hl : rs.length ≤ 900000) (hb : base ≤ w.heap.size) :
    ∃ ao' cap' w', (Builtin.append_ #[26, 26] 26 #[.slice ao rs.length cap, .slice (some ⟨w.heap.size, 0, none⟩) 1 1]).run Try.prog (w.alloc (.cells #[.int .u32 r.a, .int .i64 r.b, .int .i64 r.o] 31)) = .ok (.slice ao' (rs.length + 1) cap') w' ∧ RtOwn base ao' cap' (rs ++ [r]) w' ∧
      Ch (fun q => Value.ownBlock (.slice ao rs.length cap) = some q) w w' ∧ (∀ q, Value.ownBlock (.slice ao' (rs.length + 1) cap') = some q → Value.ownBlock (.slice ao rs.length cap) = some q ∨ w.heap.size ≤ q) := by
  obtain ⟨ao', cap', w3, hrun, hown3, hg3, hne3⟩ := Own.app1 31 26 _ 3 24 Try.underlying26 Try.info_route rfl (by omega) base ao cap rs.length (routesX rs) (w.alloc (.cells #[.int .u32 r.a, .int .i64 r.b, .int .i64 r.o] 31)) (World.ownsRow.alloc h _) (Rt.v r) rfl (by intro u hu; revert hu; show u ∈ [_, _, _] → _; simp only [List.mem_cons, List.not_mem_nil, or_false]; rintro (rfl | rfl | rfl) <;> rfl) w.heap.size (cells_new w (Rt.v r) 31) 26 (by omega) (by simp; omega)
  refine ⟨ao', cap', w3, hrun, ?_, (Ch.alloc w _).trans (Ch.grown hg3 fun k hk => hk) fun _ hk _ => hk, fun q hq => ?_⟩
  · show Own base 31 3 ao' cap' (rs ++ [r]).length (routesX (rs ++ [r])) w3
    rw [show (rs ++ [r]).length = rs.length + 1 by simp, routesX_app]
    exact hown3
  · rcases hne3 q hq with e | e
    · exact .inl e
    · exact .inr (by simp at e; omega)

set_option maxHeartbeats 4000000 in
theorem ord_long (ao : Option Addr) (cap : Nat) (l : List Rt) (a k : Int) (w : World) (hl : 60 < l.length) :
    Calls Try.prog 4 #[.slice ao l.length cap, .int .u32 a, .int .u8 k] w fun e w' => e = .returned (.bool true) ∧ Below w.heap.size w w' := by
  have hl' : (60 : Int) < (l.length : Int) := by omega
  go_enter Try.func4, Try.ntmps4
  go_wp2_with fail
  refine (awake_any _).mono ?_
  rintro e w1 ⟨rfl, hb1⟩
  go_wp2
  go_ret
  exact ⟨rfl, hb1⟩

theorem RtRow.at2 {w : World} {ao : Option Addr} {l : List Rt} (h : RtRow w ao l) (k : Nat) (hk : k < l.length) : ∃ b off, ao = some ⟨b, off, none⟩ ∧ ∀ w', Below w.heap.size w w' → w'.cell? ⟨b, off + k * 3, none⟩ = some (.int .u32 (l.getD k zR).a) ∧ w'.cell? ⟨b, off + k * 3 + 1, none⟩ = some (.int .i64 (l.getD k zR).b) ∧ w'.cell? ⟨b, off + k * 3 + 2, none⟩ = some (.int .i64 (l.getD k zR).o) := by
  obtain ⟨b, off, h1, h2, h3⟩ := h (by omega)
  exact ⟨b, off, h1, fun w' hb => ⟨(hb.cell (p := ⟨b, _, none⟩) h2).trans (h3 k hk 0 _ rfl), (hb.cell (p := ⟨b, _, none⟩) h2).trans (h3 k hk 1 _ rfl), (hb.cell (p := ⟨b, _, none⟩) h2).trans (h3 k hk 2 _ rfl)⟩⟩
/-- A trie of the law's own, apart from what Y holds. -/
structure Own' (B : Nat) (X : Nat → Prop) (w : World) (g : Nat) (st : St) : Prop where
  at' : TrieAt X w g st
  lt : ∀ q, X q → q < w.heap.size
  low : ∀ q, X q → B ≤ q
theorem Own'.ch {B : Nat} {X Y : Nat → Prop} {w w' : World} {g : Nat} {st : St} (h : Own' B X w g st) (hc : Ch Y w w') (hXY : ∀ k, X k → ¬ Y k) : Own' B X w' g st :=
  ⟨h.at'.ch hc hXY, fun q hq => Nat.lt_of_lt_of_le (h.lt q hq) hc.size, h.low⟩

set_option maxHeartbeats 8000000 in
theorem orders_all (ao : Option Addr) (cap : Nat) (l : List Rt) (a k : Nat) (w : World) (hrow : RtRow w ao l) (hok : ∀ r ∈ l, r.a < 4294967296 ∧ I64 r.b ∧ I64 r.o) (ha : a < 4294967296) (hk : k < 256) :
    Calls Try.prog 4 #[.slice ao l.length cap, .int .u32 a, .int .u8 k] w fun e w' => e = .returned (.bool true) ∧ Below w.heap.size w w' := by
  by_cases hl : 60 < l.length
  · exact ord_long ao cap l a k w hl
  have hl' : ¬ (60 : Int) < (l.length : Int) := by omega
  have HRow := Lib.hid hrow
  have HOk := Lib.hid hok
  have Ha := Lib.hid ha
  have Hk := Lib.hid hk
  clear hrow hok ha hk
  go_enter Try.func4, Try.ntmps4
  go_wp2_with fail
  refine (awake_any _).mono ?_
  rintro e w1 ⟨rfl, hb1⟩
  go_wp2_with fail
  refine (New_any w1).mono ?_
  rintro e w2 ⟨g, rfl, hT2, hb2⟩
  have hs1 := hb1.size
  have hs2 := hb2.size
  go_wp2_with fail
  refine (New_any w2).mono ?_
  rintro e w3 ⟨u, rfl, hU3, hb3⟩
  have hs3 := hb3.size
  have HT3 : Hid (Own' w.heap.size (fun k => w1.heap.size ≤ k ∧ k < w2.heap.size) w3 g st0) := Lib.hid ⟨hT2.below hb3, fun q hq => by omega, fun q hq => by omega⟩
  have HU3 : Hid (Own' w.heap.size (fun k => w2.heap.size ≤ k ∧ k < w3.heap.size) w3 u st0) := Lib.hid ⟨hU3, fun q hq => hq.2, fun q hq => by omega⟩
  have hbw3 := (hb1.trans (hb2.mono hs1)).trans (hb3.mono (by omega))
  clear hT2 hU3 hb1 hb2 hb3
  go_wp2
  go_loopw [9, 10] (fun s i wr => ∃ (k : Nat) (st : St) (rs : List Rt) (ro : Option Addr) (rc : Nat) (X : Nat → Prop), k ≤ l.length ∧ i = .int .i64 k ∧ s = .slice ro rs.length rc ∧ Own' w.heap.size X wr g st ∧ Own' w.heap.size (fun k => w2.heap.size ≤ k ∧ k < w3.heap.size) wr u st0 ∧ (∀ q, X q → ¬ (w2.heap.size ≤ q ∧ q < w3.heap.size)) ∧ RtOwn w.heap.size ro rc rs wr ∧ (∀ q, Value.ownBlock (.slice ro rs.length rc) = some q → ¬ X q ∧ ¬ (w2.heap.size ≤ q ∧ q < w3.heap.size)) ∧ Inv st rs ∧ st.nodes.length ≤ 1 + 32 * k ∧ rs.length ≤ k ∧ Below w.heap.size w wr ∧ w3.heap.size ≤ wr.heap.size) (fun _ i _ => l.length - (intOf i).toNat)
  case atStart => exact ⟨0, st0, [], none, 0, _, Nat.zero_le _, rfl, rfl, HT3.out, HU3.out, fun q hq => by omega, World.ownsRow_nil _ _ _ _, (by intro q hq; simp [Value.ownBlock] at hq), Inv.new, Nat.le_refl _, Nat.le_refl _, hbw3, Nat.le_refl _⟩
  case round =>
    clear HT3 HU3 hbw3
    obtain ⟨i, st, rs, ro, rc, X, hi, rfl, rfl, hT, hU, hXU, hR, hRX, hI, hnl, hrl, hb, h3⟩ := hrel
    have HT := Lib.hid hT
    have HU := Lib.hid hU
    have HXU := Lib.hid hXU
    have HRo := Lib.hid hR
    have HRX := Lib.hid hRX
    have HI := Lib.hid hI
    clear hT hU hXU hR hRX hI
    have hbs := hb.size
    by_cases hil : i < l.length
    · obtain ⟨b, off, rfl, hcs⟩ := HRow.out.at2 i hil
      obtain ⟨c0, c1, c2⟩ := hcs wr hb
      have HCs := Lib.hid hcs
      clear hcs
      have hil' : (i : Int) < (l.length : Int) := by omega
      have hm := HOk.out _ (getD_mem l i hil)
      have HA := Lib.hid (Add_any X g st rs (l.getD i zR) wr HT.out.at' HT.out.lt HI.out hm.1 (by omega) (by omega))
      generalize l.getD i zR = r at *
      have HA : Hid (Calls Try.prog 10 #[.pointer (some ⟨g, 0, none⟩), .agg #[.int .u32 r.a, .int .i64 r.b, .int .i64 r.o]] wr _) := HA
      go_wp2_with fail
      refine HA.out.mono ?_
      rintro e w4 ⟨rfl, hc4, st4, hT4, hI4, hl4⟩
      have hs4 := hc4.size
      have HI4 := Lib.hid hI4
      have hI4' := hI4
      clear hI4
      have HT4 : Hid (Own' w.heap.size (Up X wr w4) w4 g st4) := Lib.hid ⟨hT4, Up.lt HT.out.lt hs4, Up.base HT.out.low hbs⟩
      have HU4 := Lib.hid (HU.out.ch hc4 (fun q hq hx => HXU.out q hx hq))
      have HR4 : Hid (RtOwn w.heap.size ro rc rs w4) := Lib.hid (hc4.own HRo.out fun q hq => (HRX.out q hq).1)
      have HXU4 : Hid (∀ q, Up X wr w4 q → ¬ (w2.heap.size ≤ q ∧ q < w3.heap.size)) := Lib.hid fun q hq hu => by
        rcases hq with hq | hq
        · exact HXU.out q hq hu
        · omega
      have HRl : Hid (∀ q, Value.ownBlock (.slice ro rs.length rc) = some q → q < wr.heap.size) := Lib.hid fun q hq => (World.ownsRow.lt HRo.out q hq).2
      have hbw4 := hb.trans (hc4.below HT.out.low hbs)
      obtain ⟨d0, d1, d2⟩ := HCs.out w4 hbw4
      clear hT4 hI4' hc4 HA HT HU HRo HXU HCs c0 c1 c2
      by_cases h0 : R.addE rs r = 0
      · rw [if_pos h0] at HI4
        rw [h0]
        obtain ⟨ro', rc', w5, hrun, hR5, hc5, hn5⟩ := append_route w.heap.size ro rc rs r w4 HR4.out (by omega) hbw4.size
        have HT5 := Lib.hid (HT4.out.ch hc5 (fun q hq hx => by
          rcases hq with hq | hq
          · exact (HRX.out q hx).1 hq
          · have := HRl.out q hx; omega))
        have HU5 := Lib.hid (HU4.out.ch hc5 (fun q hq hx => (HRX.out q hx).2 hq))
        have HRX5 : Hid (∀ q, Value.ownBlock (.slice ro' (rs.length + 1) rc') = some q → ¬ Up X wr w4 q ∧ ¬ (w2.heap.size ≤ q ∧ q < w3.heap.size)) := Lib.hid fun q hq => by
          rcases hn5 q hq with hx | hx
          · refine ⟨fun hu => ?_, (HRX.out q hx).2⟩
            rcases hu with hu | hu
            · exact (HRX.out q hx).1 hu
            · have := HRl.out q hx; omega
          · refine ⟨fun hu => ?_, fun hu => by omega⟩
            have := HT4.out.lt q hu
            omega
        have hbw5 : Below w.heap.size w w5 := hbw4.trans (hc5.below (fun q hq => (World.ownsRow.lt HR4.out q hq).1) hbw4.size)
        have hs5 := hc5.size
        have Hrun := Lib.hid hrun
        have HR5 := Lib.hid hR5
        clear hrun hR5 hc5 hn5 HT4 HU4 HR4 HRX HRl hbw4
        go_wp2_with (at_builtin; refine listAppend rfl _ _ _ _ rfl _ _ rfl rfl _ _ Hrun.out ?_)
        go_roundw
        case rel => exact ⟨i + 1, st4, rs ++ [r], ro', rc', _, by omega, by go_num, by simp, HT5.out, HU5.out, HXU4.out, HR5.out, by simpa using HRX5.out, HI4.out, by omega, by simp; omega, hbw5, by omega⟩
        case measure => simp [intOf]; omega
      · rw [if_neg h0] at HI4
        have hne : ((R.addE rs r : Nat) : Int) ≠ 0 := by omega
        have hne' : (((R.addE rs r : Nat) : Int) == 0) = false := by rw [beq_eq_false_iff_ne]; exact hne
        have HRX4 : Hid (∀ q, Value.ownBlock (.slice ro rs.length rc) = some q → ¬ Up X wr w4 q ∧ ¬ (w2.heap.size ≤ q ∧ q < w3.heap.size)) := Lib.hid fun q hq => by
          refine ⟨fun hu => ?_, (HRX.out q hq).2⟩
          rcases hu with hu | hu
          · exact (HRX.out q hq).1 hu
          · have := HRl.out q hq; omega
        generalize R.addE rs r = E at *
        clear HRX HRl hne
        go_wp2
        go_roundw
        case rel => exact ⟨i + 1, st4, rs, ro, rc, _, by omega, by go_num, rfl, HT4.out, HU4.out, HXU4.out, HR4.out, HRX4.out, HI4.out, by omega, by omega, hbw4, by omega⟩
        case measure => simp [intOf]; omega
    · obtain rfl : i = l.length := by omega
      have hil' : ¬ (l.length : Int) < (l.length : Int) := by omega
      -- LOOP2
      have hrl60 : rs.length ≤ 60 := by omega
      generalize wr = wo at *
      go_wp2
      go_loopw [11] (fun s wr => ∃ (m : Nat) (z : Int) (su : St) (Y : Nat → Prop), m ≤ rs.length ∧ Hid (z = (rs.length : Int) - 1 - m) ∧ s = .int .i64 z ∧ Own' w.heap.size X wr g st ∧ Own' w.heap.size Y wr u su ∧ (∀ q, Y q → ¬ X q) ∧ RtOwn w.heap.size ro rc rs wr ∧ (∀ q, Value.ownBlock (.slice ro rs.length rc) = some q → ¬ Y q) ∧ Inv su (rev rs m) ∧ su.nodes.length ≤ 1 + 32 * m ∧ Below w.heap.size w wr) (fun s _ => (intOf s + 1).toNat)
      case atStart => exact ⟨0, _, st0, _, Nat.zero_le _, Lib.hid (by omega), rfl, HT.out, HU.out, fun q hq hx => HXU.out q hx hq, HRo.out, fun q hq => (HRX.out q hq).2, Inv.new, Nat.le_refl _, hb⟩
      case round =>
        clear HT HU HXU HRo hb hbs
        obtain ⟨m, z, su, Y, hm, Hz, rfl, hT2, hU2, hYX, hR2, hRY, hIu, hnu, hbw⟩ := hrel
        have HT2 := Lib.hid hT2
        have HU2 := Lib.hid hU2
        have HYX := Lib.hid hYX
        have HR2 := Lib.hid hR2
        have HRY := Lib.hid hRY
        have HIu := Lib.hid hIu
        clear hT2 hU2 hYX hR2 hRY hIu
        by_cases hml : m < rs.length
        · obtain ⟨J, hJ⟩ : ∃ J : Nat, J = rs.length - 1 - m := ⟨_, rfl⟩
          obtain rfl : z = (J : Int) := by have := Hz.out; omega
          have hJl : J < rs.length := by omega
          have HSucc := Lib.hid (rev_succ rs m hml)
          rw [← hJ] at HSucc
          have hxm : rs.getD J zR ∈ rs := getD_mem rs J hJl
          have HNot := Lib.hid (rev_not rs (inv_nodup HI.out) m hml)
          rw [← hJ] at HNot
          have hadd := add_some HI.out hxm (rev_mem rs m) HNot.out (by rw [rev_len rs m (by omega)]; omega)
          have HA := Lib.hid (Add_any Y u su (rev rs m) (rs.getD J zR) wr HU2.out.at' HU2.out.lt HIu.out (inv_right HI.out _ hxm).2 (by rw [rev_len rs m (by omega)]; omega) (by omega))
          rw [hadd] at HA
          obtain ⟨b, rfl, c0, c1, c2⟩ := RtOwn.at' HR2.out J hJl
          have hJ0 : (0 : Int) ≤ (J : Int) := by omega
          have hJ1 : (J : Int) < (rs.length : Int) := by omega
          have HJ := Lib.hid hJ
          clear hJ hxm hadd HNot
          generalize rs.getD J zR = r at *
          have HA : Hid (Calls Try.prog 10 #[.pointer (some ⟨u, 0, none⟩), .agg #[.int .u32 r.a, .int .i64 r.b, .int .i64 r.o]] wr _) := HA
          go_wp2_with fail
          refine HA.out.mono ?_
          rintro e w6 ⟨rfl, hc6, su6, hU6, hI6, hl6⟩
          have hs6 := hc6.size
          have HU6 : Hid (Own' w.heap.size (Up Y wr w6) w6 u su6) := Lib.hid ⟨hU6, Up.lt HU2.out.lt hs6, Up.base HU2.out.low hbw.size⟩
          have HT6 := Lib.hid (HT2.out.ch hc6 (fun q hq hx => HYX.out q hx hq))
          have HYX6 : Hid (∀ q, Up Y wr w6 q → ¬ X q) := Lib.hid fun q hq hx => by
            rcases hq with hq | hq
            · exact HYX.out q hq hx
            · have := HT2.out.lt q hx; omega
          have HR6 : Hid (RtOwn w.heap.size (some ⟨b, 0, none⟩) rc rs w6) := Lib.hid (hc6.own HR2.out fun q hq => HRY.out q hq)
          have HRY6 : Hid (∀ q, Value.ownBlock (.slice (some ⟨b, 0, none⟩) rs.length rc) = some q → ¬ Up Y wr w6 q) := Lib.hid fun q hq hu => by
            rcases hu with hu | hu
            · exact HRY.out q hq hu
            · have := (World.ownsRow.lt HR2.out q hq).2; omega
          have hbw6 := hbw.trans (hc6.below HU2.out.low hbw.size)
          have HI6 : Hid (Inv su6 (rev rs (m + 1))) := Lib.hid (by rw [HSucc.out]; exact hI6)
          clear hU6 hI6 hc6 HA HT2 HU2 HYX HR2 HRY c0 c1 c2 HIu hbw
          go_wp2
          go_roundw
          case rel => exact ⟨m + 1, (J : Int) - 1, su6, _, by omega, Lib.hid (by have := HJ.out; omega), by first | rfl | go_num, HT6.out, HU6.out, HYX6.out, HR6.out, HRY6.out, HI6.out, by omega, hbw6⟩
          case measure => simp [intOf]
        · obtain rfl : m = rs.length := by omega
          obtain rfl : z = -1 := by have := Hz.out; omega
          have hz0 : ¬ (0 : Int) ≤ -1 := by omega
          by_cases hl0 : rs.length = 0
          · obtain ⟨ru, hru⟩ : ∃ ru, rev rs rs.length = ru := ⟨_, rfl⟩
            have Hmem : Hid (∀ r, r ∈ rs ↔ r ∈ ru) := Lib.hid fun r => by rw [← hru]; exact (rev_all rs r).symm
            rw [hru] at HIu
            have Hnu : Hid (su.nodes.length ≤ 800000) := Lib.hid (by omega)
            have hl0' : ¬ (0 : Int) < (rs.length : Int) := by omega
            clear hru
            go_upto_region 19 with fail
            obtain ⟨pl, hR, _⟩ := HI.out
            have HRep := Lib.hid hR
            obtain ⟨plu, hRu, _⟩ := HIu.out
            have HRepu := Lib.hid hRu
            clear hR hRu
            go_wp2_with fail
            refine (Find_any _ g st rs pl a wr HT2.out.at' HRep.out Ha.out (by omega)).mono ?_
            rintro e w20 ⟨x, p, rfl, hfx, hb20⟩
            have HFx := Lib.hid hfx
            have HT20 := Lib.hid (HT2.out.at'.below hb20)
            have HU20 := Lib.hid (HU2.out.at'.below hb20)
            have hbw20 := hbw.trans (hb20.mono hbw.size)
            clear hfx hb20 HT2 HU2 hbw
            obtain ⟨xa, xb, xo⟩ := x
            unfold Rt.agg
            dsimp only
            have hb21 : Below w20.heap.size w20 (w20.alloc (.cells #[.int .u32 xa, .int .i64 xb, .int .i64 xo] 31)) := (Below.refl _ _).alloc (Nat.le_refl _) _
            have HB21 : Hid (RBlk (w20.alloc (.cells #[.int .u32 xa, .int .i64 xb, .int .i64 xo] 31)) w20.heap.size ⟨xa, xb, xo⟩) := Lib.hid (RBlk.new w20 ⟨xa, xb, xo⟩)
            have HT21 := Lib.hid (HT20.out.below hb21)
            have HU21 := Lib.hid (HU20.out.below hb21)
            have hbw21 := hbw20.trans (hb21.mono hbw20.size)
            clear hb21 HT20 HU20 hbw20
            go_upto_region 20 with fail
            generalize w20.alloc (.cells #[.int .u32 xa, .int .i64 xb, .int .i64 xo] 31) = w21 at *
            generalize w20.heap.size = bx at *
            go_wp2_with fail
            refine (Find_any _ u su ru plu a w21 HU21.out HRepu.out Ha.out (by have := Hnu.out; omega)).mono ?_
            rintro e w22 ⟨y, q, rfl, hfy, hb22⟩
            obtain ⟨hxy, hpq⟩ := find_same HI.out Hmem.out HFx.out hfy
            subst hxy hpq
            have HT22 := Lib.hid (HT21.out.below hb22)
            have HU22 := Lib.hid (HU21.out.below hb22)
            have HB22 := Lib.hid (HB21.out.below hb22)
            have hbw22 := hbw21.trans (hb22.mono hbw21.size)
            clear hfy hb22 HT21 HU21 HB21 hbw21 HFx
            have hb23 : Below w22.heap.size w22 (w22.alloc (.cells #[.int .u32 xa, .int .i64 xb, .int .i64 xo] 31)) := (Below.refl _ _).alloc (Nat.le_refl _) _
            have HB23 : Hid (RBlk (w22.alloc (.cells #[.int .u32 xa, .int .i64 xb, .int .i64 xo] 31)) w22.heap.size ⟨xa, xb, xo⟩) := Lib.hid (RBlk.new w22 ⟨xa, xb, xo⟩)
            have HBx := Lib.hid (HB22.out.below hb23)
            have HT23 := Lib.hid (HT22.out.below hb23)
            have HU23 := Lib.hid (HU22.out.below hb23)
            have hbw23 := hbw22.trans (hb23.mono hbw22.size)
            clear hb23 HT22 HU22 hbw22 HB22
            unfold Rt.agg
            dsimp only
            go_upto_region 21 with fail
            generalize w22.alloc (.cells #[.int .u32 xa, .int .i64 xb, .int .i64 xo] 31) = w23 at *
            obtain ⟨x0, x1, x2⟩ := HBx.out.cells
            obtain ⟨y0, y1, y2⟩ := HB23.out.cells
            dsimp only at x0 x1 x2 y0 y1 y2
            have HLen := Lib.hid (Len_any _ g st w23 HT23.out (R.inv_zero HI.out))
            rw [add_inv_len HI.out] at HLen
            obtain ⟨D, hD⟩ := doms_of rs
            have HNt := Lib.hid (fun w' hb => Nodes_any _ g st D.length w' (HT23.out.below hb) (R.inv_zero HI.out) (HI.out.len hD) (by omega))
            have HNu := Lib.hid (Nodes_any _ u su D.length w23 HU23.out (R.inv_zero HIu.out) (HIu.out.len (hD.same Hmem.out)) (by have := Hnu.out; omega))
            generalize D.length = dl at *
            clear hD
            go_wp2_with fail
            refine HLen.out.mono ?_
            rintro e w24 ⟨rfl, rfl⟩
            go_wp2_with fail
            refine HNu.out.mono ?_
            rintro e w25 ⟨rfl, hb25⟩
            have hbw25 := hbw23.trans (hb25.mono hbw23.size)
            go_wp2_with fail
            refine (HNt.out w25 hb25).mono ?_
            rintro e w26 ⟨rfl, hb26⟩
            have hbw26 := hbw25.trans (hb26.mono hbw25.size)
            go_wp2
            go_ret
            exact ⟨rfl, hbw26⟩
          · have hl0' : (0 : Int) < (rs.length : Int) := by omega
            have Hnd := inv_nodup HI.out
            obtain ⟨J, hJ⟩ : ∃ J : Nat, J = k % rs.length := ⟨_, rfl⟩
            have hJl : J < rs.length := by rw [hJ]; exact Nat.mod_lt _ (by omega)
            have hxm : rs.getD J zR ∈ rs := getD_mem rs J hJl
            obtain ⟨b, rfl, c0, c1, c2⟩ := RtOwn.at' HR2.out J hJl
            have hrem : (k : Int).tmod (rs.length : Int) = (J : Int) := by rw [hJ]; rw [Int.tmod_eq_emod_of_nonneg (by omega)]; simp
            have hwk : wrap64 (k : Int) = (k : Int) := IntWalk.wrap64_in _ (by have := Hk.out; omega)
            have hJ1 : (J : Int) < (rs.length : Int) := by omega
            have hl1 : ¬ (rs.length : Int) = 0 := by omega
            have hl2 : ((rs.length : Int) == 0) = false := by rw [beq_eq_false_iff_ne]; exact hl1
            have hxr := inv_right HI.out _ hxm
            -- what is let go, and added again
            have HRall := Lib.hid (rev_all rs)
            generalize hru : rev rs rs.length = r0 at *
            have hxr0 : rs.getD J zR ∈ r0 := (HRall.out _).2 hxm
            have hnd0 : r0.Nodup := inv_nodup HIu.out
            have hm0 : ∀ r, r ∈ r0.erase (rs.getD J zR) ↔ r ∈ r0 ∧ r ≠ rs.getD J zR := fun r => by rw [hnd0.mem_erase_iff]; exact And.comm
            have hlr0 : r0.length = rs.length := by rw [← hru]; exact rev_len rs _ (Nat.le_refl _)
            have hln0 : (r0.erase (rs.getD J zR)).length + 1 = r0.length := by rw [List.length_erase_of_mem hxr0]; omega
            have HD := Lib.hid (fun (wx : World) (hox : Own' w.heap.size Y wx u su) => Drop_ok Y u su r0 (r0.erase (rs.getD J zR)) (rs.getD J zR) wx eq_node hox.at' hox.lt HIu.out hxr0 hm0 (hnd0.sublist List.erase_sublist) hln0 (by omega) (by omega))
            have hadd := add_some HI.out hxm (L := r0.erase (rs.getD J zR)) (fun r hr => (HRall.out r).1 ((hm0 r).1 hr).1) (fun h => ((hm0 _).1 h).2 rfl) (by omega)
            have HA := Lib.hid (fun (wx : World) (Z : Nat → Prop) (sx : St) (hT : TrieAt Z wx u sx) (hZ : ∀ q, Z q → q < wx.heap.size) (hIx : Inv sx (r0.erase (rs.getD J zR))) (hnx : sx.nodes.length ≤ 800000) => Add_any Z u sx (r0.erase (rs.getD J zR)) (rs.getD J zR) wx hT hZ hIx hxr.2 (by omega) hnx)
            have Hmem0 : Hid (∀ r, r ∈ rs ↔ r ∈ r0.erase (rs.getD J zR) ++ [rs.getD J zR]) := Lib.hid fun r => by
              rw [List.mem_append, hm0 r, HRall.out r, List.mem_singleton]
              constructor
              · intro h
                by_cases e : r = rs.getD J zR
                · exact .inr e
                · exact .inl ⟨h, e⟩
              · rintro (h | h)
                · exact h.1
                · rw [h]; exact hxm
            rw [hadd] at HA
            generalize r0.erase (rs.getD J zR) = r9 at *
            clear hxm hxr hxr0 hnd0 hm0 hln0 hadd HRall hlr0 hru Hnd hJ
            generalize rs.getD J zR = r at *
            have hb1 : Below wr.heap.size wr (wr.alloc (.cells #[.int .u32 r.a, .int .i64 r.b, .int .i64 r.o] 31)) := (Below.refl _ _).alloc (Nat.le_refl _) _
            have HB1 : Hid (RBlk (wr.alloc (.cells #[.int .u32 r.a, .int .i64 r.b, .int .i64 r.o] 31)) wr.heap.size r) := Lib.hid (RBlk.new wr r)
            have HT2b := Lib.hid (HT2.out.ch (Ch.ofBelow hb1 fun _ => False) (fun _ _ h => h))
            have HU2b := Lib.hid (HU2.out.ch (Ch.ofBelow hb1 fun _ => False) (fun _ _ h => h))
            have hbwb := hbw.trans (hb1.mono hbw.size)
            have hbx : wr.heap.size < (wr.alloc (.cells #[.int .u32 r.a, .int .i64 r.b, .int .i64 r.o] 31)).heap.size := by simp
            have HXl := Lib.hid HT2.out.lt
            have HYl := Lib.hid HU2.out.lt
            go_upto_region 17 with fail
            clear hb1 HT2 HU2 hbw c0 c1 c2
            generalize wr.alloc (.cells #[.int .u32 r.a, .int .i64 r.b, .int .i64 r.o] 31) = w11 at *
            obtain ⟨x0, x1, x2⟩ := HB1.out.cells
            go_wp2_with fail
            refine (HD.out w11 HU2b.out).mono ?_
            rintro e w12 ⟨rfl, hc12, su12, hU12, hI12, hl12⟩
            have hs12 := hc12.size
            have HB12 : Hid (RBlk w12 wr.heap.size r) := Lib.hid ((hc12.block _ hbx (fun e => by have := HYl.out _ e; omega)).trans HB1.out)
            have HT12 := Lib.hid (HT2b.out.ch hc12 (fun q hq hx => HYX.out q hx hq))
            have hbw12 := hbwb.trans (hc12.below HU2b.out.low hbwb.size)
            have HUl12 := Lib.hid (Up.lt HU2b.out.lt hs12)
            have HUb12 := Lib.hid (Up.base HU2b.out.low hbwb.size (w1 := w12))
            have HYX12 : Hid (∀ q, Up Y w11 w12 q → ¬ X q) := Lib.hid fun q hq hx => by
              rcases hq with hq | hq
              · exact HYX.out q hq hx
              · have := HXl.out q hx; omega
            have HU12 := Lib.hid hU12
            have HI12 := Lib.hid hI12
            clear hU12 hI12 hc12 HD x0 x1 x2 HT2b HU2b HB1 hbwb
            obtain ⟨x0, x1, x2⟩ := HB12.out.cells
            have HA2 := Lib.hid (HA.out w12 _ su12 HU12.out HUl12.out HI12.out (by omega))
            have HA2 : Hid (Calls Try.prog 10 #[.pointer (some ⟨u, 0, none⟩), .agg #[.int .u32 r.a, .int .i64 r.b, .int .i64 r.o]] w12 _) := HA2
            go_wp2_with fail
            refine HA2.out.mono ?_
            rintro e w13 ⟨rfl, hc13, su13, hU13, hI13, hl13⟩
            have hs13 := hc13.size
            have HT2 := Lib.hid (HT12.out.ch hc13 (fun q hq hx => HYX12.out q hx hq))
            have HU2 : Hid (Own' w.heap.size (Up (Up Y w11 w12) w12 w13) w13 u su13) := Lib.hid ⟨hU13, Up.lt HUl12.out hs13, Up.base HUb12.out hbw12.size⟩
            have hbw := hbw12.trans (hc13.below HUb12.out hbw12.size)
            have HIu : Hid (Inv su13 (r9 ++ [r])) := Lib.hid hI13
            have Hmem := Hmem0
            have Hnu : Hid (su13.nodes.length ≤ 800000) := Lib.hid (by omega)
            generalize r9 ++ [r] = ru at *
            clear hU13 hI13 hc13 HA HA2 HT12 HU12 HI12 x0 x1 x2 HB12 hbw12 Hmem0
            go_upto_region 19 with fail
            obtain ⟨pl, hR, _⟩ := HI.out
            have HRep := Lib.hid hR
            obtain ⟨plu, hRu, _⟩ := HIu.out
            have HRepu := Lib.hid hRu
            clear hR hRu
            go_wp2_with fail
            refine (Find_any _ g st rs pl a w13 HT2.out.at' HRep.out Ha.out (by omega)).mono ?_
            rintro e w20 ⟨x, p, rfl, hfx, hb20⟩
            have HFx := Lib.hid hfx
            have HT20 := Lib.hid (HT2.out.at'.below hb20)
            have HU20 := Lib.hid (HU2.out.at'.below hb20)
            have hbw20 := hbw.trans (hb20.mono hbw.size)
            clear hfx hb20 HT2 HU2 hbw
            obtain ⟨xa, xb, xo⟩ := x
            unfold Rt.agg
            dsimp only
            have hb21 : Below w20.heap.size w20 (w20.alloc (.cells #[.int .u32 xa, .int .i64 xb, .int .i64 xo] 31)) := (Below.refl _ _).alloc (Nat.le_refl _) _
            have HB21 : Hid (RBlk (w20.alloc (.cells #[.int .u32 xa, .int .i64 xb, .int .i64 xo] 31)) w20.heap.size ⟨xa, xb, xo⟩) := Lib.hid (RBlk.new w20 ⟨xa, xb, xo⟩)
            have HT21 := Lib.hid (HT20.out.below hb21)
            have HU21 := Lib.hid (HU20.out.below hb21)
            have hbw21 := hbw20.trans (hb21.mono hbw20.size)
            clear hb21 HT20 HU20 hbw20
            go_upto_region 20 with fail
            generalize w20.alloc (.cells #[.int .u32 xa, .int .i64 xb, .int .i64 xo] 31) = w21 at *
            generalize w20.heap.size = bx at *
            go_wp2_with fail
            refine (Find_any _ u su13 ru plu a w21 HU21.out HRepu.out Ha.out (by have := Hnu.out; omega)).mono ?_
            rintro e w22 ⟨y, q, rfl, hfy, hb22⟩
            obtain ⟨hxy, hpq⟩ := find_same HI.out Hmem.out HFx.out hfy
            subst hxy hpq
            have HT22 := Lib.hid (HT21.out.below hb22)
            have HU22 := Lib.hid (HU21.out.below hb22)
            have HB22 := Lib.hid (HB21.out.below hb22)
            have hbw22 := hbw21.trans (hb22.mono hbw21.size)
            clear hfy hb22 HT21 HU21 HB21 hbw21 HFx
            have hb23 : Below w22.heap.size w22 (w22.alloc (.cells #[.int .u32 xa, .int .i64 xb, .int .i64 xo] 31)) := (Below.refl _ _).alloc (Nat.le_refl _) _
            have HB23 : Hid (RBlk (w22.alloc (.cells #[.int .u32 xa, .int .i64 xb, .int .i64 xo] 31)) w22.heap.size ⟨xa, xb, xo⟩) := Lib.hid (RBlk.new w22 ⟨xa, xb, xo⟩)
            have HBx := Lib.hid (HB22.out.below hb23)
            have HT23 := Lib.hid (HT22.out.below hb23)
            have HU23 := Lib.hid (HU22.out.below hb23)
            have hbw23 := hbw22.trans (hb23.mono hbw22.size)
            clear hb23 HT22 HU22 hbw22 HB22
            unfold Rt.agg
            dsimp only
            go_upto_region 21 with fail
            generalize w22.alloc (.cells #[.int .u32 xa, .int .i64 xb, .int .i64 xo] 31) = w23 at *
            obtain ⟨x0, x1, x2⟩ := HBx.out.cells
            obtain ⟨y0, y1, y2⟩ := HB23.out.cells
            dsimp only at x0 x1 x2 y0 y1 y2
            have HLen := Lib.hid (Len_any _ g st w23 HT23.out (R.inv_zero HI.out))
            rw [add_inv_len HI.out] at HLen
            obtain ⟨D, hD⟩ := doms_of rs
            have HNt := Lib.hid (fun w' hb => Nodes_any _ g st D.length w' (HT23.out.below hb) (R.inv_zero HI.out) (HI.out.len hD) (by omega))
            have HNu := Lib.hid (Nodes_any _ u su13 D.length w23 HU23.out (R.inv_zero HIu.out) (HIu.out.len (hD.same Hmem.out)) (by have := Hnu.out; omega))
            generalize D.length = dl at *
            clear hD
            go_wp2_with fail
            refine HLen.out.mono ?_
            rintro e w24 ⟨rfl, rfl⟩
            go_wp2_with fail
            refine HNu.out.mono ?_
            rintro e w25 ⟨rfl, hb25⟩
            have hbw25 := hbw23.trans (hb25.mono hbw23.size)
            go_wp2_with fail
            refine (HNt.out w25 hb25).mono ?_
            rintro e w26 ⟨rfl, hb26⟩
            have hbw26 := hbw25.trans (hb26.mono hbw25.size)
            go_wp2
            go_ret
            exact ⟨rfl, hbw26⟩
theorem orders_int (ao : Option Addr) (cap : Nat) (l : List Rt) (a k : Int) (w : World) (hrow : RtRow w ao l) (hok : ∀ r ∈ l, r.a < 4294967296 ∧ I64 r.b ∧ I64 r.o) (ha : 0 ≤ a ∧ a ≤ 4294967295) (hk : 0 ≤ k ∧ k ≤ 255) :
    Calls Try.prog 4 #[.slice ao l.length cap, .int .u32 a, .int .u8 k] w fun e w' => e = .returned (.bool true) ∧ Below w.heap.size w w' := by
  obtain ⟨a, rfl⟩ := Int.eq_ofNat_of_zero_le ha.1
  obtain ⟨k, rfl⟩ := Int.eq_ofNat_of_zero_le hk.1
  exact orders_all ao cap l a k w hrow hok (by omega) (by omega)
#print axioms orders_int
end Go.Proofs.Ytepjefgbbobphaa
