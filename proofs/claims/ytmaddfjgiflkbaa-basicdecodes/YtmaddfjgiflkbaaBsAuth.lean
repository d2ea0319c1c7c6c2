/- The walk of what tells a set as authorities. -/
import Derived.Test.YtmaddfjgiflkbaaBsLow
import Derived.Laws.OwnMore
namespace Go.Proofs.Ytmaddfjgiflkbaa
open Go.RowKit
set_option maxRecDepth 100000
set_option linter.unusedVariables false

/-- Bytes, as a text. -/
def nb (l : List Nat) : ByteArray := ⟨(l.map UInt8.ofNat).toArray⟩
theorem Try.info_u8 : (Try.prog.info? 5).map (fun i => (i.zero, i.size, i.bytes)) = some (some (.int .u8 0), 1, 1) := by kernel_rfl
def lenOf : Value → Nat
  | .slice _ n _ => n
  | _ => 0

theorem VBuf.frozen {e : TypeId} {base g cap : Nat} {vs : List Value} {w : World} (h : VBuf e base (some ⟨g, 0, none⟩) cap vs w) (j : Nat) : w.frozen? ⟨g, j, none⟩ = false := World.ownsRow.frozenAt h j
theorem VBuf.set {e : TypeId} {base g cap : Nat} {vs : List Value} {w : World} (h : VBuf e base (some ⟨g, 0, none⟩) cap vs w) (j : Nat) (u : Value) : VBuf e base (some ⟨g, 0, none⟩) cap (vs.set j u) (w.setCell ⟨g, j, none⟩ u) := by
  have := (World.ownsRow.stored h j u).1
  unfold VBuf
  rw [List.length_set]
  exact this
theorem VBuf.string {base : Nat} {ao : Option Addr} {cap : Nat} {l : List Nat} {vs : List Value} {w : World} (h : VBuf 5 base ao cap vs w) (hv : vs = l.map fun (x : Nat) => Value.int .u8 (x : Int)) (hl : ∀ x ∈ l, x < 256) :
    (convert 47 9 (.slice ao vs.length cap)).run Try.prog w = .ok (.string (nb l)) w := by
  subst hv
  rcases h.2 with ⟨hv, h0⟩ | ⟨g, cap', cur, hv, _, hg, hr⟩
  · obtain rfl : l = [] := List.length_eq_zero_iff.1 (by simpa using h0)
    rw [hv]
    rfl
  · have hao : ao = some ⟨g, 0, none⟩ := by simp only [Value.slice.injEq] at hv; exact hv.1
    subst hao
    have := run_convert_bytes_back (P := Try.prog) w 47 9 5 ⟨g, 0, none⟩ cap (l.map UInt8.ofNat) Try.underlying47 Try.underlying5 Try.underlying9 (fun j hj => by
      rw [List.length_map] at hj
      have := World.ownsRow.cells h (g := g) rfl j (.int .u8 (l[j] : Nat)) (by rw [List.getElem?_map, List.getElem?_eq_getElem hj]; rfl)
      rw [this]
      rw [List.getElem_map, UInt8.toNat_ofNat', Nat.mod_eq_of_lt (hl _ (List.getElem_mem hj))])
    rw [List.length_map] at this ⊢
    exact this

theorem xor_odd (x : Nat) (h : x < 128) : (2 * x + 1) ^^^ 1 = 2 * x := by
  have : (List.range 128).all (fun x => (2 * x + 1) ^^^ 1 == 2 * x) = true := by decide
  exact eq_of_beq (List.all_eq_true.1 this x (List.mem_range.2 h))

set_option maxHeartbeats 8000000 in
theorem auth_any (n : Nat) (w : World) (hn : n < 2 ^ 240) (hm : C.mostTo n 240 ≤ 27) :
    Calls Try.prog 17 #[.agg (C.cv n)] w fun e w' => e = .returned (.string (nb (B.au n))) ∧ Below w.heap.size w w' := by
  have HA := Lib.hid (SetAt.new w n)
  have hb0 : Below w.heap.size w (w.alloc (.cells (C.cv n) 23)) := (Below.refl _ w).alloc (Nat.le_refl _) _
  have hll : (C.list n).length ≤ 240 := by have := C.listTo_len n 240; unfold intsV at this; rw [List.length_map] at this; exact this
  go_enter Try.func17, Try.ntmps17
  go_wp2_with (refine load_set rfl rfl rfl HA.out ?_)
  refine (List_any n _).mono ?_
  rintro e w1 ⟨lo, lc, rfl, hrow, hb1⟩
  have hbw1 := hb0.trans (hb1.mono hb0.size)
  have HR := Lib.hid hrow
  clear hb0 hb1 HA hrow
  go_wp2
  go_loopw [3, 12] (fun s i wr => ∃ (j : Nat) (ao : Option Addr) (cp : Nat), j ≤ (C.list n).length ∧ i = .int .i64 j ∧ s = .slice ao (B.bf (C.plus 0 ((C.list n).take j)) (B.cOf (C.list n) j)).length cp ∧ VBuf 5 w1.heap.size ao cp (B.bf (C.plus 0 ((C.list n).take j)) (B.cOf (C.list n) j)) wr ∧ Below w1.heap.size w1 wr) (fun _ i _ => (C.list n).length - (intOf i).toNat)
  case atStart => exact ⟨0, none, 0, by omega, rfl, rfl, VBuf.nil _ _ _, Below.refl _ _⟩
  case round =>
    obtain ⟨j, ao, cp, hj, rfl, rfl, hbuf, hb⟩ := hrel
    have hbs := hb.size
    by_cases hlt : j < (C.list n).length
    · obtain ⟨k, hk, hk28⟩ := B.most_bound n j hm hlt
      obtain ⟨b, off, rfl, hbl, hcell⟩ := HR.out.then hb j hlt
      rw [hk] at hcell
      have hle := B.c_le n j hlt
      have Hnext := Lib.hid (B.c_next (C.list n) j)
      have Hplus := Lib.hid (C.plus_take 0 (C.list n) j hlt)
      have Hzero := Lib.hid (fun i (hi : i ≤ 3) (h : B.cOf (C.list n) j ≤ i) => B.v_ahead n j i hi (by omega) h)
      rw [hk] at hle
      have Hk := Lib.hid hk
      clear hk
      have hlt' : (j : Int) < ((C.list n).length : Int) := by omega
      have hk4 : k / 7 ≤ 3 := by omega
      generalize C.plus 0 ((C.list n).take j) = m at *
      generalize hcc : B.cOf (C.list n) j = c at *
      have hc0 : c ≤ k / 7 + 1 := by omega
      clear hcc hle
      generalize hvs : B.bf m c = vs at *
      have Hvs := Lib.hid hvs
      have hvl : vs.length = c := by rw [← hvs]; exact B.bf_len m c
      clear hvs
      have Hpl := Lib.hid (fun w => bplace_any k w (by omega))
      have hp8 : 2 ^ (7 - k % 7) < 256 := show 2 ^ (7 - k % 7) < 2 ^ 8 from Nat.pow_lt_pow_right (by decide) (by omega)
      have Hs2 := Lib.hid (fun (hc : k / 7 + 1 ≤ 4) (h : k / 7 < k / 7 + 1) => B.bf_set m (k / 7 + 1) k hk28 hc h)
      generalize 2 ^ (7 - k % 7) = p at Hpl Hs2 hp8
      go_wp2_with fail
      refine (Hpl.out _).mono ?_
      rintro e w2 ⟨rfl, hb2⟩
      have hbw := hb.trans (hb2.mono hbs)
      have hbuf2 := hbuf.carry hb2
      clear hb2 hbuf hcell
      go_wp2
      go_loopw [3] (fun s wq => ∃ (c' : Nat) (ao : Option Addr) (cp : Nat), c ≤ c' ∧ c' ≤ k / 7 + 1 ∧ s = .slice ao (B.bf m c').length cp ∧ VBuf 5 w1.heap.size ao cp (B.bf m c') wq ∧ Below w1.heap.size w1 wq) (fun s _ => 40 - lenOf s)
      case atStart => exact ⟨c, ao, cp, Nat.le_refl _, hc0, by rw [Hvs.out, hvl], by rw [Hvs.out]; exact hbuf2, hbw⟩
      case round =>
        obtain ⟨c', ao', cp', hc1, hc2, rfl, hbuf3, hb3⟩ := hrel
        clear hbw hbuf2
        have hbs3 := hb3.size
        have hlen3 := B.bf_len m c'
        by_cases hin : c' ≤ k / 7
        · have Hmore := Lib.hid (B.bf_more m c' (Hzero.out c' (by omega) hc1))
          obtain ⟨ao4, cp4, w4, hrun, hbuf4, hg⟩ := append_one 5 47 _ _ Try.underlying47 Try.info_u8 rfl (by omega) w1.heap.size ao' cp' (B.bf m c') (wr.alloc (.cells #[.int .u8 1] 5)) (hbuf3.alloc _) (.int .u8 1) rfl wr.heap.size (by simp) 47 (by omega) (by simp; omega)
          have hb4 : Below w1.heap.size w1 w4 := (hb3.alloc (by omega) _).grown hg (by simp; omega) hbuf3.own
          have Hrun := Lib.hid hrun
          have hin' : ((B.bf m c').length : Int) ≤ ((k / 7 : Nat) : Int) := by omega
          rw [Hmore.out] at hbuf4
          have HB4 := Lib.hid hbuf4
          clear hrun hbuf4 hbuf3 hg
          generalize hv' : B.bf m c' = vs' at *
          go_wp2_with (at_builtin; refine listAppend rfl _ _ _ _ rfl _ _ rfl rfl _ _ Hrun.out ?_)
          go_roundw
          case rel => exact ⟨c' + 1, ao4, cp4, by omega, by omega, by rw [B.bf_len], HB4.out, hb4⟩
          case measure => simp [lenOf]; omega
        · obtain rfl : c' = k / 7 + 1 := by omega
          have hin' : ¬ ((B.bf m (k / 7 + 1)).length : Int) ≤ ((k / 7 : Nat) : Int) := by omega
          obtain ⟨g, rfl, hbg, hgl, hcs⟩ := hbuf3.at (by omega)
          have hce := hcs (k / 7) _ (B.bf_get m (k / 7 + 1) (k / 7) (by omega))
          have hfr := hbuf3.frozen (k / 7)
          have hv := B.v_lt m (k / 7)
          have hu := u8_or (2 * B.v m (k / 7) + 1) p (by omega) hp8
          have hset := hbuf3.set (k / 7) (.int .u8 (((2 * B.v m (k / 7) + 1) ||| p : Nat) : Int))
          rw [Hs2.out (by omega) (by omega)] at hset
          have Hset := Lib.hid hset
          clear hset
          have hk7 : ((k / 7 : Nat) : Int) < ((B.bf m (k / 7 + 1)).length : Int) := by omega
          have Hl2 : Hid ((B.bf m (k / 7 + 1)).length = (B.bf (m ||| C.one k) (k / 7 + 1)).length) := Lib.hid (by rw [B.bf_len, B.bf_len])
          have hone : Hid (m ||| C.oneI ((C.list n).getD j 0) = m ||| C.one k) := Lib.hid (by rw [Hk.out]; unfold C.oneI; rw [if_pos (by omega), Int.toNat_natCast])
          clear hcs hbuf3 Hs2
          generalize ((2 * B.v m (k / 7) + 1) ||| p) = y at *
          generalize 2 * B.v m (k / 7) + 1 = x at *
          have E1 : Hid (B.cOf (C.list n) (j + 1) = k / 7 + 1) := Lib.hid (by rw [Hnext.out, Hk.out]; omega)
          have E2 : Hid (C.plus 0 ((C.list n).take (j + 1)) = m ||| C.one k) := Lib.hid (by rw [Hplus.out, hone.out])
          go_wp2
          go_roundw
          case rel => exact ⟨j + 1, some ⟨g, 0, none⟩, cp', by omega, by go_num, by rw [E1.out, E2.out]; simp only [B.bf_len], by rw [E1.out, E2.out]; exact Hset.out, hb3.setCell (by show w1.heap.size ≤ g; omega) _⟩
          case measure => simp [intOf]; omega
    · have e : (C.list n).take j = C.list n := List.take_of_length_le (by omega)
      obtain rfl : j = (C.list n).length := by omega
      have hlt' : ¬ ((C.list n).length : Int) < ((C.list n).length : Int) := by omega
      rw [e, B.plus_list n hn, B.c_end] at hbuf ⊢
      have hl4 := B.len_le n hm
      have hbl := B.bf_len n (B.len n)
      have hab : ∀ x ∈ B.au n, x < 256 := fun x hx => by
        unfold B.au at hx
        obtain ⟨i, _, rfl⟩ := List.mem_map.1 hx
        exact B.ab_lt n i
      clear e
      by_cases hz : B.len n = 0
      · have hneg : ¬ (0 : Int) ≤ ((B.bf n (B.len n)).length : Int) - 1 := by omega
        have hcv := hbuf.string (l := B.au n) (by rw [hz]; exact B.ends_none n hz) hab
        clear hbuf hab hbl hz hl4
        generalize B.bf n (B.len n) = vs at *
        go_wp2
        go_ret
        exact ⟨rfl, hbw1.trans (hb.mono hbw1.size)⟩
      · obtain ⟨c, hc⟩ : ∃ c, B.len n = c + 1 := ⟨B.len n - 1, by omega⟩
        rw [hc] at hbuf hbl ⊢
        have hpos : (0 : Int) ≤ ((B.bf n (c + 1)).length : Int) - 1 := by omega
        have hci : ((B.bf n (c + 1)).length : Int) - 1 = (c : Int) := by omega
        obtain ⟨g, rfl, hbg, hgl, hcs⟩ := hbuf.at (by omega)
        have hce := hcs c _ (B.bf_get n (c + 1) c (by omega))
        have hfr := hbuf.frozen c
        have hv := B.v_lt n c
        have hu : bits .andNot .u8 ((2 * B.v n c + 1 : Nat) : Int) 1 = ((2 * B.v n c : Nat) : Int) := by
          have := u8_andNot (2 * B.v n c + 1) 0 (by omega) (by omega)
          rw [show ((2 ^ 0 : Nat) : Int) = 1 from rfl, show (2 * B.v n c + 1) &&& 2 ^ 0 = 1 by rw [Nat.pow_zero, Nat.and_one_is_mod]; omega] at this
          rw [this]
          have := xor_odd (B.v n c) hv
          omega
        have hset := hbuf.set c (.int .u8 ((2 * B.v n c : Nat) : Int))
        have hl1 : ((B.bf n (c + 1)).set c (.int .u8 ((2 * B.v n c : Nat) : Int))).length = (B.bf n (c + 1)).length := List.length_set
        have hcv := hset.string (l := B.au n) (B.ends_set n c hc) hab
        rw [hl1] at hcv
        have hc4 : c ≤ 3 := by omega
        have hwc : wrap64 (c : Int) = (c : Int) := IntWalk.wrap64_in _ (by clear hu hcv hset hce hfr hcs hn; omega)
        have hc0 : (0 : Int) ≤ (c : Int) := Int.natCast_nonneg c
        have hcl : (c : Int) < ((B.bf n (c + 1)).length : Int) := by omega
        have hbx : Below w1.heap.size w1 (wr.setCell ⟨g, c, none⟩ (.int .u8 ((2 * B.v n c : Nat) : Int))) := hb.setCell hbg _
        clear hbuf hab hset hcs hl1 hbl hc hz hl4
        generalize B.bf n (c + 1) = vs at *
        generalize hx1 : 2 * B.v n c + 1 = x at *
        generalize 2 * B.v n c = y at *
        go_wp2
        go_ret
        exact ⟨rfl, hbw1.trans (hbx.mono hbw1.size)⟩
#print axioms auth_any
end Go.Proofs.Ytmaddfjgiflkbaa
