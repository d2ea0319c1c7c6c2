/- The walks of a datagram's further steps: sizes, the check sum, options, data. -/
import Derived.Test.YtncnildpbccpaaaGreatDoorKi
import Derived.Test.YtncnildpbccpaaaGreatDoorKg
import Derived.Deep.QuietTactic
import Derived.BigQuiet
import Derived.Deep.DeepCutAuto
set_option maxRecDepth 100000
namespace Go.Proofs.YtncnildpbccpaaaGreatDoor
open Go.RowKit

theorem Hd.drewN {base p r : Nat} {s : List UInt8} {k : Nat} {cs : Array Value} {w : World} (h : Hd base p r s k cs w) (n : Nat) : Hd base p r s k cs (w.drewN n) := ⟨h.low, h.ne, h.cell, ⟨h.rd.low, h.rd.cells⟩⟩
theorem Hd.alloc {base p r : Nat} {s : List UInt8} {k : Nat} {cs : Array Value} {w : World} (h : Hd base p r s k cs w) (o : Obj) : Hd base p r s k cs (w.alloc o) :=
  ⟨h.low, h.ne, (Below.heap_alloc w o p h.lt).trans h.cell, ⟨h.rd.low, (Below.heap_alloc w o r (lt_of_block h.rd.cells)).trans h.rd.cells⟩⟩
theorem Hd.carry {base p r : Nat} {s : List UInt8} {k : Nat} {cs : Array Value} {w w' : World} (h : Hd base p r s k cs w) (hb : Below w.heap.size w w') : Hd base p r s k cs w' :=
  ⟨h.low, h.ne, (hb.block p h.lt).trans h.cell, ⟨h.rd.low, (hb.block r (lt_of_block h.rd.cells)).trans h.rd.cells⟩⟩
theorem belowN {base : Nat} {w w' : World} (h : Below base w w') (n : Nat) : Below base w (w'.drewN n) := by
  induction n with
  | zero => exact h
  | succ k ih => exact ih.drew
theorem Hd.base {base p r : Nat} {s : List UInt8} {k : Nat} {cs : Array Value} {w : World} (h : Hd base p r s k cs w) : base ≤ w.heap.size := by have := h.lt; have := h.low; omega

/-- What is wrong with the numbers of bytes. -/
def H.sizes (s : List UInt8) : Nat := if s.length < H.hl s then 2 else if H.sh s 2 < H.hl s then 3 else if s.length < H.sh s 2 then 2 else if H.sh s 2 < s.length then 5 else 0

set_option maxHeartbeats 1000000 in
theorem sizes_any (base p r : Nat) (s : List UInt8) (w : World) (h : Hd base p r s 20 (cs1 r s) w) (_hs : s.length ≤ 90000) :
    Calls Tryz.prog 46 #[.pointer (some ⟨p, 0, none⟩)] w fun e w' => e = .returned (.int .i64 (H.sizes s)) ∧ Hd base p r s 20 (cs1 r s) w' ∧ Below base w w' := by
  have Hh := Lib.hid h
  have c1 := h.at 1 (.string (ba s)) rfl
  have c2 := h.at 2 (.int .i64 (H.hl s)) rfl
  have c3 := h.at 3 (.int .i64 (H.sh s 2)) rfl
  have z := ba_size s
  have l1 := H.hl_le s
  have l2 := H.sh_lt s 2
  obtain ⟨v, hv⟩ : ∃ v : Nat, H.sizes s = v := ⟨_, rfl⟩
  have Hv := Lib.hid (show (if s.length < H.hl s then 2 else if H.sh s 2 < H.hl s then 3 else if s.length < H.sh s 2 then 2 else if H.sh s 2 < s.length then 5 else 0) = v from hv)
  rw [hv]
  clear hv h
  generalize H.hl s = a at *
  generalize H.sh s 2 = b at *
  generalize hn : s.length = n at *
  have Hn := Lib.hid hn
  clear hn
  generalize ba s = S at *
  by_cases h1 : n < a
  · go_enter Tryz.func46, Tryz.ntmps46
    go_wp2
    go_ret
    exact ⟨ret_i64 (by rw [← Hv.out, if_pos h1]; rfl), Hh.out, Below.refl _ _⟩
  · by_cases h2 : b < a
    · go_enter Tryz.func46, Tryz.ntmps46
      go_wp2
      go_quiet (fail)
      go_wp2
      go_ret
      exact ⟨ret_i64 (by rw [← Hv.out, if_neg h1, if_pos h2]; rfl), Hh.out.drewN _, belowN (Below.refl _ _) _⟩
    · by_cases h3 : n < b
      · go_enter Tryz.func46, Tryz.ntmps46
        go_wp2
        go_quiet (fail)
        go_wp2
        go_ret
        exact ⟨ret_i64 (by rw [← Hv.out, if_neg h1, if_neg h2, if_pos h3]; rfl), Hh.out.drewN _, belowN (Below.refl _ _) _⟩
      · by_cases h4 : b < n
        · go_enter Tryz.func46, Tryz.ntmps46
          go_wp2
          go_quiet (fail)
          go_wp2
          go_ret
          exact ⟨ret_i64 (by rw [← Hv.out, if_neg h1, if_neg h2, if_neg h3, if_pos h4]; rfl), Hh.out.drewN _, belowN (Below.refl _ _) _⟩
        · go_enter Tryz.func46, Tryz.ntmps46
          go_wp2
          go_quiet (fail)
          go_wp2
          go_ret
          exact ⟨ret_i64 (by rw [← Hv.out, if_neg h1, if_neg h2, if_neg h3, if_neg h4]; rfl), Hh.out.drewN _, belowN (Below.refl _ _) _⟩

set_option maxHeartbeats 400000 in
theorem good_no (A : ByteArray) (b : Nat) (w : World) (hb : b < w.heap.size) (h0 : w.cell? ⟨b, 0, none⟩ = some (.string A)) (hs : A.size ≤ 100000) (hg : M.ofs [A] ≠ 0) :
    Calls Tryz.prog 64 #[.slice (some ⟨b, 0, none⟩) 1 1] w fun e w' => e = .returned (.bool false) ∧ Below w.heap.size w w' := by
  obtain ⟨n, hn⟩ : ∃ n, M.ofs [A] = n := ⟨_, rfl⟩
  rw [hn] at hg
  have Hn := Lib.hid hn
  have hz : ((n : Int) == 0) = false := by simp; omega
  clear hn hg
  go_enter Tryz.func64, Tryz.ntmps64
  go_wp2_with fail
  refine (of_one A b w hb h0 hs).mono ?_
  rintro e w1 ⟨rfl, hb1⟩
  rw [Hn.out]
  go_wp2
  go_ret
  exact ⟨rfl, hb1⟩

theorem good_is (A : ByteArray) (q : Bool) (hq : q = decide (M.ofs [A] = 0)) (b : Nat) (w : World) (hb : b < w.heap.size) (h0 : w.cell? ⟨b, 0, none⟩ = some (.string A)) (hs : A.size ≤ 100000) :
    Calls Tryz.prog 64 #[.slice (some ⟨b, 0, none⟩) 1 1] w fun e w' => e = .returned (.bool q) ∧ Below w.heap.size w w' := by
  by_cases hg : M.ofs [A] = 0
  · rw [hq, decide_eq_true hg]; exact good_one A b w hb h0 hs hg
  · rw [hq, decide_eq_false hg]; exact good_no A b w hb h0 hs hg

set_option maxHeartbeats 2000000 in
theorem good_step (base p r : Nat) (s : List UInt8) (w : World) (h : Hd base p r s 20 (cs1 r s) w) (hl : H.hl s ≤ s.length) (q : Bool) (hq : q = decide (M.ofs [ba (s.take (H.hl s))] = 0)) (v : Int) (hv : v = if q then 0 else 4) :
    Calls Tryz.prog 47 #[.pointer (some ⟨p, 0, none⟩)] w fun e w' => e = .returned (.int .i64 v) ∧ Hd base p r s 20 (cs1 r s) w' ∧ Below base w w' := by
  have Hh := Lib.hid h
  have c1 := h.at 1 (.string (ba s)) rfl
  have c2 := h.at 2 (.int .i64 (H.hl s)) rfl
  have hbase := h.base
  have hx : (ba s).extract 0 (H.hl s) = ba (s.take (H.hl s)) := ba_take s (H.hl s)
  have hxs : (ba (s.take (H.hl s))).size ≤ 60 := by rw [ba_size, List.length_take]; have := H.hl_le s; omega
  have z := ba_size s
  have Hq := Lib.hid hq
  have Hv := Lib.hid hv
  clear hv
  have z1 : (H.hl s : Int) ≤ (s.length : Int) := by omega
  have hlt := h.lt
  clear hq h
  generalize ba (s.take (H.hl s)) = A at *
  generalize H.hl s = a at *
  generalize hn : s.length = n at *
  have Hn := Lib.hid hn
  clear hn
  have z2 : a ≤ n := hl
  go_enter Tryz.func47, Tryz.ntmps47
  go_wp2
  go_region_with ((go_at_call 64; refine (good_is A q Hq.out _ _ (by simp) (by first | exact newCell _ _ _ _ _ _ rfl rfl | simp) (by omega)).mono ?_; rintro e w1 ⟨rfl, hb1⟩))
  all_goals
    have hh := ((Hh.out.alloc (.cells #[.string A] 9)).draw).carry hb1
    have hbw : Below base w w1 := (((Below.refl base w).alloc hbase _).drew).trans (hb1.mono (by simp; omega))
    cases q
    all_goals
      go_wp2
      go_ret
      exact ⟨ret_i64 (by rw [Hv.out]; rfl), hh, hbw⟩

theorem htake (base p r : Nat) (s : List UInt8) (k n : Nat) (cs : Array Value) (w : World) (h : Hd base p r s k cs w) (hs : s.length ≤ 90000) (hn : k + n ≤ s.length) :
    Calls Tryz.prog 66 #[.pointer (some ⟨r, 0, none⟩), .int .i64 n] w fun e w' => e = .returned (.string (ba ((s.drop k).take n))) ∧ Hd base p r s (k + n) cs w' ∧ Below base w w' := by
  refine (take_any base r _ n w h.rd (rst_size s k hs)).mono ?_
  rintro e w' ⟨he, hr, hg⟩
  rw [H.take_rst s k n] at he hr
  have := h.read hg hr
  rw [if_pos hn] at he
  exact ⟨he, this.1, this.2⟩

theorem hrest (base p r : Nat) (s : List UInt8) (k : Nat) (cs : Array Value) (w : World) (h : Hd base p r s k cs w) (hs : s.length ≤ 90000) (hn : k ≤ s.length) :
    Calls Tryz.prog 67 #[.pointer (some ⟨r, 0, none⟩)] w fun e w' => e = .returned (.string (ba (s.drop k))) ∧ Hd base p r s s.length cs w' ∧ Below base w w' ∧ w.grownBy w' (some r) := by
  refine (Rest_any base r _ w h.rd (rst_size s k hs)).mono ?_
  rintro e w' ⟨he, hr, hg⟩
  have e1 : (H.rst s k).map ba = some (ba (s.drop k)) := by unfold H.rst; rw [if_pos hn]; rfl
  have e2 : takeOf ((H.rst s k).map ba) (((((H.rst s k).map ba).getD nobytes).size : Nat) : Int) = (ba (s.drop k), (H.rst s s.length).map ba) := by
    have e3 : (((H.rst s k).map ba).getD nobytes).size = s.length - k := by rw [e1]; show (s.drop k).length = _; rw [List.length_drop]
    rw [e3, H.take_rst s k (s.length - k), if_pos (by omega), List.take_of_length_le (by rw [List.length_drop]; omega), show k + (s.length - k) = s.length by omega]
  rw [e2] at he hr
  have := h.read hg hr
  exact ⟨he, this.1, this.2, hg⟩

/-- What a reader of a datagram holds behind its options. -/
def cs2 (r : Nat) (s : List UInt8) (v : Value) : Array Value := (cs1 r s).setIfInBounds 13 v
/-- And behind its data. -/
def cs3 (r : Nat) (s : List UInt8) (v : Value) : Array Value := (cs2 r s v).setIfInBounds 14 (.string (ba (s.drop (H.hl s))))

set_option maxHeartbeats 2000000 in
theorem options_err (base p r : Nat) (s : List UInt8) (w : World) (h : Hd base p r s 20 (cs1 r s) w) (hs : s.length ≤ 90000) (hl : H.hl s ≤ s.length) (hl20 : 20 ≤ H.hl s) (n : Nat) (hp : O.parse ((s.drop 20).take (H.hl s - 20)) = .error n) :
    Calls Tryz.prog 48 #[.pointer (some ⟨p, 0, none⟩)] w fun e w' => e = .returned (.int .i64 n) ∧ Below base w w' := by
  have Hh := Lib.hid h
  have c0 := h.at 0 (.pointer (some ⟨r, 0, none⟩)) rfl
  have c2 := h.at 2 (.int .i64 (H.hl s)) rfl
  have hbase := h.base
  have l1 := H.hl_le s
  have Hp := Lib.hid (fun w => optParse_any ((s.drop 20).take (H.hl s - 20)) w (by rw [List.length_take]; omega))
  rw [hp] at Hp
  have hlt := h.lt
  have Htk := Lib.hid (fun cs w h => htake base p r s 20 (H.hl s - 20) cs w h hs (by omega))
  clear h hp
  generalize ba ((s.drop 20).take (H.hl s - 20)) = A at *
  generalize H.hl s = a at *
  obtain ⟨m, hm⟩ : ∃ m : Nat, (a : Int) - 20 = (m : Int) := ⟨a - 20, by omega⟩
  have hma : a - 20 = m := by omega
  rw [hma] at Htk
  clear hma
  have j1 : IntKind.i64.wrap (m : Int) = (m : Int) := IntWalk.i64_in _ (by omega)
  go_enter Tryz.func48, Tryz.ntmps48
  go_wp2
  go_region_with (first
    | ((go_at_call 66; refine (Htk.out _ _ (by exact Hh.out.draw)).mono ?_; rintro e w1 ⟨rfl, h1, hb1⟩))
    | ((go_at_call 65; refine (Hp.out _).mono ?_; rintro e w2 ⟨rfl, hb2⟩)))
  all_goals
    have hh := h1.carry hb2
    have e13 := hh.at 13 (.slice none 0 0) rfl
    have d13 := hh.fz 13
    have hbw : Below base w w2 := (((Below.refl base w).drew).trans hb1).trans (hb2.mono h1.base)
    have hbz := hbw.trans (hh.store 13 (.slice none 0 0) _ rfl).2
    go_wp2
    go_ret
    exact ⟨rfl, hbz⟩

/-- Options that don't lie in block p. -/
def OptAway (p : Nat) (ao : Option Addr) (l : List Opt) : Prop := l = [] ∨ ∀ a, ao = some a → a.block ≠ p

theorem OptRow.set {w : World} {ao : Option Addr} {l : List Opt} (h : OptRow w ao l) {p : Nat} (ha : OptAway p ao l) (i : Nat) (v : Value) : OptRow (w.setCell ⟨p, i, none⟩ v) ao l := by
  rcases h with h | ⟨b, off, rfl, hlt, hc⟩
  · exact .inl h
  · rcases ha with ha | ha
    · exact .inl ha
    · have hne : b ≠ p := ha _ rfl
      refine .inr ⟨b, off, rfl, by simpa using hlt, fun j hj => ?_⟩
      rw [World.cell?_of_block (w := w) (a := ⟨b, off + j * 2, none⟩) (Below.heap_setCell _ _ _ _ hne), World.cell?_of_block (w := w) (a := ⟨b, off + j * 2 + 1, none⟩) (Below.heap_setCell _ _ _ _ hne)]
      exact hc j hj

theorem OptRow.grown {w w' : World} {ao : Option Addr} {l : List Opt} (h : OptRow w ao l) {r : Nat} (ha : OptAway r ao l) (hg : w.grownBy w' (some r)) : OptRow w' ao l := by
  rcases h with h | ⟨b, off, rfl, hlt, hc⟩
  · exact .inl h
  · rcases ha with ha | ha
    · exact .inl ha
    · have hne : some b ≠ some r := fun e => ha _ rfl (by cases e; rfl)
      refine .inr ⟨b, off, rfl, Nat.lt_of_lt_of_le hlt hg.size, fun j hj => ?_⟩
      rw [World.cell?_of_block (w := w) (a := ⟨b, off + j * 2, none⟩) (hg.block b hlt hne), World.cell?_of_block (w := w) (a := ⟨b, off + j * 2 + 1, none⟩) (hg.block b hlt hne)]
      exact hc j hj

theorem away_rd {base r : Nat} {o : Option ByteArray} {w : World} {ao : Option Addr} {l : List Opt} (h : Rd base r o w) (ho : OptRow w ao l) : OptAway r ao l := by
  rcases ho with ho | ⟨b, off, rfl, hlt, hc⟩
  · exact .inl ho
  · cases hl : l with
    | nil => exact .inl rfl
    | cons x t =>
      refine .inr fun a ha e => ?_
      cases ha
      simp only at e
      subst e
      obtain ⟨h1, h2⟩ := hc 0 (by rw [hl]; simp)
      simp only [World.cell?, h.cells, Nat.zero_mul, Nat.add_zero] at h1 h2
      match off, h1, h2 with
      | 0, h1, _ => simp at h1
      | 1, h1, _ => simp at h1
      | j + 2, h1, _ => simp at h1

theorem cs1_pair (r : Nat) (s : List UInt8) (j : Nat) (k : Int) (d : ByteArray) (h1 : (cs1 r s)[j]? = some (.int .i64 k)) (h2 : (cs1 r s)[j + 1]? = some (.string d)) : False := by
  unfold cs1 at h1 h2
  match j with
  | 0 => simp at h1
  | 1 => simp at h1
  | 2 => simp at h2
  | 3 => simp at h2
  | 4 => simp at h2
  | 5 => simp at h2
  | 6 => simp at h1
  | 7 => simp at h1
  | 8 => simp at h2
  | 9 => simp at h2
  | 10 => simp at h2
  | 11 => simp at h1
  | 12 => simp at h1
  | 13 => simp at h1
  | 14 => simp at h1
  | j + 15 => simp at h1

theorem away_of {base p r : Nat} {s : List UInt8} {k : Nat} {w : World} {ao : Option Addr} {l : List Opt} (h : Hd base p r s k (cs1 r s) w) (ho : OptRow w ao l) : OptAway p ao l := by
  rcases ho with ho | ⟨b, off, rfl, hlt, hc⟩
  · exact .inl ho
  · cases hl : l with
    | nil => exact .inl rfl
    | cons o t =>
      refine .inr fun a ha e => ?_
      cases ha
      simp only at e
      subst e
      obtain ⟨h1, h2⟩ := hc 0 (by rw [hl]; simp)
      simp only [World.cell?, h.cell] at h1 h2
      exact cs1_pair r s (off + 0 * 2) _ _ h1 h2

set_option maxHeartbeats 2000000 in
theorem options_ok (base p r : Nat) (s : List UInt8) (w : World) (h : Hd base p r s 20 (cs1 r s) w) (hs : s.length ≤ 90000) (hl : H.hl s ≤ s.length) (hl20 : 20 ≤ H.hl s) (l : List Opt) (hp : O.parse ((s.drop 20).take (H.hl s - 20)) = .ok l) :
    Calls Tryz.prog 48 #[.pointer (some ⟨p, 0, none⟩)] w fun e w' => e = .returned (.int .i64 0) ∧ (∃ ao cp, Hd base p r s (H.hl s) (cs2 r s (.slice ao l.length cp)) w' ∧ OptRow w' ao l ∧ OptAway p ao l) ∧ Below base w w' := by
  have Hh := Lib.hid h
  have c0 := h.at 0 (.pointer (some ⟨r, 0, none⟩)) rfl
  have c2 := h.at 2 (.int .i64 (H.hl s)) rfl
  have hbase := h.base
  have l1 := H.hl_le s
  have Hp := Lib.hid (fun w => optParse_any ((s.drop 20).take (H.hl s - 20)) w (by rw [List.length_take]; omega))
  rw [hp] at Hp
  have hlt := h.lt
  have Htk := Lib.hid (fun cs w h => htake base p r s 20 (H.hl s - 20) cs w h hs (by omega))
  rw [show 20 + (H.hl s - 20) = H.hl s by omega] at Htk
  clear h hp
  generalize ba ((s.drop 20).take (H.hl s - 20)) = A at *
  generalize hG : (fun w' : World => ∃ ao cp, Hd base p r s (H.hl s) (cs2 r s (.slice ao l.length cp)) w' ∧ OptRow w' ao l ∧ OptAway p ao l) = G
  have HG : Hid (∀ w' ao cp, Hd base p r s (H.hl s) (cs2 r s (.slice ao l.length cp)) w' → OptRow w' ao l → OptAway p ao l → G w') := Lib.hid (by rw [← hG]; exact fun w' ao cp h1 h2 h3 => ⟨ao, cp, h1, h2, h3⟩)
  show Calls Tryz.prog 48 #[.pointer (some ⟨p, 0, none⟩)] w fun e w' => e = .returned (.int .i64 0) ∧ (fun w' : World => ∃ ao cp, Hd base p r s (H.hl s) (cs2 r s (.slice ao l.length cp)) w' ∧ OptRow w' ao l ∧ OptAway p ao l) w' ∧ Below base w w'
  rw [hG]
  clear hG
  obtain ⟨m, hm⟩ : ∃ m : Nat, (H.hl s : Int) - 20 = (m : Int) := ⟨H.hl s - 20, by omega⟩
  have hma : H.hl s - 20 = m := by omega
  rw [hma] at Htk
  clear hma
  have j1 : IntKind.i64.wrap (m : Int) = (m : Int) := IntWalk.i64_in _ (by omega)
  go_enter Tryz.func48, Tryz.ntmps48
  go_wp2
  go_region_with (first
    | ((go_at_call 66; refine (Htk.out _ _ (by exact Hh.out.draw)).mono ?_; rintro e w1 ⟨rfl, h1, hb1⟩))
    | ((go_at_call 65; refine (Hp.out _).mono ?_; rintro e w2 ⟨ao, cp, rfl, hrow, hb2⟩)))
  all_goals
    have hh := h1.carry hb2
    have haw := away_of hh hrow
    have e13 := hh.at 13 (.slice none 0 0) rfl
    have d13 := hh.fz 13
    have hbw : Below base w w2 := (((Below.refl base w).drew).trans hb1).trans (hb2.mono h1.base)
    have hst := hh.store 13 (.slice ao l.length cp) _ rfl
    have hbz := hbw.trans hst.2
    have Hz := Lib.hid (HG.out _ ao cp hst.1 (hrow.set haw 13 _) haw)
    clear hst hrow haw
    go_wp2
    go_ret
    exact ⟨rfl, Hz.out, hbz⟩

end Go.Proofs.YtncnildpbccpaaaGreatDoor

namespace Go.Proofs.YtncnildpbccpaaaGreatDoor
open Go.RowKit

set_option maxHeartbeats 1000000 in
theorem data_any (base p r : Nat) (s : List UInt8) (v : Value) (w : World) (h : Hd base p r s (H.hl s) (cs2 r s v) w) (hs : s.length ≤ 90000) (hl : H.hl s ≤ s.length) (z : Int) (hz : z = if 65535 < H.sh s 6 % 8192 * 8 + (s.length - H.hl s) then 3 else 0) :
    Calls Tryz.prog 49 #[.pointer (some ⟨p, 0, none⟩)] w fun e w' => e = .returned (.int .i64 z) ∧ Hd base p r s s.length (cs3 r s v) w' ∧ (∀ ao l, OptRow w ao l → OptAway p ao l → OptRow w' ao l) ∧ Below base w w' := by
  have Hh := Lib.hid h
  have c0 := h.at 0 (.pointer (some ⟨r, 0, none⟩)) rfl
  have Hz := Lib.hid hz
  clear h hz
  generalize hG : (fun w' : World => ∀ ao l, OptRow w ao l → OptAway p ao l → OptRow w' ao l) = G
  have HG : Hid (∀ w', (∀ ao l, OptRow w ao l → OptAway p ao l → OptRow w' ao l) → G w') := Lib.hid (by rw [← hG]; exact fun w' h => h)
  show Calls Tryz.prog 49 #[.pointer (some ⟨p, 0, none⟩)] w fun e w' => e = .returned (.int .i64 z) ∧ Hd base p r s s.length (cs3 r s v) w' ∧ (fun w' : World => ∀ ao l, OptRow w ao l → OptAway p ao l → OptRow w' ao l) w' ∧ Below base w w'
  rw [hG]
  clear hG
  have l4 : H.sh s 6 % 8192 * 8 ≤ 65528 := by omega
  have c8 : Hid ((cs3 r s v)[8]? = some (.int .i64 ((H.sh s 6 % 8192 * 8 : Nat) : Int))) := Lib.hid rfl
  go_enter Tryz.func49, Tryz.ntmps49
  go_wp2_with fail
  refine (hrest base p r s (H.hl s) _ w Hh.out hs hl).mono ?_
  rintro e w1 ⟨rfl, h1, hb1, hg1⟩
  have e14 := h1.at 14 (.string ⟨#[]⟩) rfl
  have d14 := h1.fz 14
  obtain ⟨h2, hb2⟩ := h1.store 14 (.string (ba (s.drop (H.hl s)))) (cs3 r s v) rfl
  have Ho := Lib.hid (HG.out (w1.setCell ⟨p, 14, none⟩ (.string (ba (s.drop (H.hl s))))) (fun ao l h3 h4 => (h3.grown (away_rd Hh.out.rd h3) hg1).set h4 14 _))
  have Ho2 := Lib.hid (fun n => HG.out ((w1.setCell ⟨p, 14, none⟩ (.string (ba (s.drop (H.hl s))))).drewN n) (fun ao l h3 h4 => (h3.grown (away_rd Hh.out.rd h3) hg1).set h4 14 _))
  have hbz := hb1.trans hb2
  have H2 := Lib.hid h2
  have hsz : (ba (s.drop (H.hl s))).size = s.length - H.hl s := by rw [ba_size, List.length_drop]
  have hle : s.length - H.hl s ≤ 90000 := by omega
  clear h1 hb1 hb2 hg1 c0 Ho
  go_upto_region 2 with fail
  clear e14 d14
  generalize (w1.setCell ⟨p, 14, none⟩ (.string (ba (s.drop (H.hl s))))) = w2 at *
  have k8 := h2.at 8 (.int .i64 ((H.sh s 6 % 8192 * 8 : Nat) : Int)) rfl
  have k14 := h2.at 14 (.string (ba (s.drop (H.hl s)))) rfl
  clear h2
  generalize ba (s.drop (H.hl s)) = D at *
  have HhN := Lib.hid (fun n => H2.out.drewN n)
  clear H2
  generalize s.length - H.hl s = dl at *
  generalize H.sh s 6 % 8192 * 8 = o at *
  have j1 : IntKind.i64.wrap ((o : Int) + (dl : Int)) = (o : Int) + (dl : Int) := IntWalk.i64_in _ (by omega)
  by_cases hc : 65535 < o + dl
  · have hc' : (65535 : Int) < (o : Int) + (dl : Int) := by omega
    go_quiet (fail)
    go_wp2
    go_ret
    exact ⟨ret_i64 (by rw [Hz.out, if_pos hc]), HhN.out _, Ho2.out _, belowN hbz _⟩
  · have hc' : ¬ (65535 : Int) < (o : Int) + (dl : Int) := by omega
    go_quiet (fail)
    go_wp2
    go_ret
    exact ⟨ret_i64 (by rw [Hz.out, if_neg hc]), HhN.out _, Ho2.out _, belowN hbz _⟩
#print axioms data_any
end Go.Proofs.YtncnildpbccpaaaGreatDoor

