/- The walk of all steps of a datagram, and of its packet. -/
import Derived.Test.YtncnildpbccpaaaGreatDoorKj
import Derived.Test.YtncnildpbccpaaaGreatDoorKk
import Derived.Test.YtncnildpbccpaaaGreatDoorKc
import Derived.Deep.QuietTactic
import Derived.BigQuiet
import Derived.IntWalk
import Derived.Test.YtncnildpbccpaaaGreatDoorKa
set_option maxRecDepth 100000
namespace Go.Proofs.YtncnildpbccpaaaGreatDoor
open Go.RowKit

theorem pick0 (w : World) (a b c d e : Value) : (Instr.index 83 (.agg #[a, b, c, d, e]) (.int .i64 0)).run Tryz.prog w = .ok a w := by kernel_rfl
theorem pick1 (w : World) (a b c d e : Value) : (Instr.index 83 (.agg #[a, b, c, d, e]) (.int .i64 1)).run Tryz.prog w = .ok b w := by kernel_rfl
theorem pick2 (w : World) (a b c d e : Value) : (Instr.index 83 (.agg #[a, b, c, d, e]) (.int .i64 2)).run Tryz.prog w = .ok c w := by kernel_rfl
theorem pick3 (w : World) (a b c d e : Value) : (Instr.index 83 (.agg #[a, b, c, d, e]) (.int .i64 3)).run Tryz.prog w = .ok d w := by kernel_rfl
theorem pick4 (w : World) (a b c d e : Value) : (Instr.index 83 (.agg #[a, b, c, d, e]) (.int .i64 4)).run Tryz.prog w = .ok e w := by kernel_rfl

/-- How the steps end. -/
def Steps (s : List UInt8) (w : World) (e : Ending) (w' : World) : Prop :=
  match H.parse s with
  | .error n => e = .returned (.tuple #[.pointer none, .int .i64 n]) ∧ Below w.heap.size w w'
  | .ok k => ∃ p r ao cp, e = .returned (.tuple #[.pointer (some ⟨p, 0, none⟩), .int .i64 0]) ∧ Hd w.heap.size p r s s.length (cs3 r s (.slice ao k.opts.length cp)) w' ∧ OptRow w' ao k.opts ∧ Below w.heap.size w w'

theorem steps_err {s : List UInt8} {w w' : World} {n : Nat} (h : H.parse s = .error n) (hb : Below w.heap.size w w') : Steps s w (.returned (.tuple #[.pointer none, .int .i64 n])) w' := by
  unfold Steps; rw [h]; exact ⟨rfl, hb⟩
theorem steps_ok {s : List UInt8} {w w' : World} {l : List Opt} {p r : Nat} {ao : Option Addr} {cp : Nat} (h : H.parse s = .ok (H.pkt s l)) (h1 : Hd w.heap.size p r s s.length (cs3 r s (.slice ao l.length cp)) w') (h2 : OptRow w' ao l) (hb : Below w.heap.size w w') : Steps s w (.returned (.tuple #[.pointer (some ⟨p, 0, none⟩), .int .i64 0])) w' := by
  unfold Steps; rw [h]; exact ⟨p, r, ao, cp, rfl, h1, h2, hb⟩

namespace H
theorem parse_short (s : List UInt8) (h : s.length < 20) : parse s = .error 2 := by unfold parse; rw [if_pos h]
theorem parse_off (s : List UInt8) (h : 20 ≤ s.length) (ho : off s) : parse s = .error 3 := by unfold parse; rw [if_neg (by omega), if_pos (show g s 0 / 16 ≠ 4 ∨ hl s < 20 ∨ 32768 ≤ sh s 6 from ho)]
theorem parse_size (s : List UInt8) (h : 20 ≤ s.length) (ho : ¬ off s) (n : Nat) (hn : sizes s = n) (h0 : n ≠ 0) : parse s = .error n := by
  unfold sizes at hn
  unfold parse
  rw [if_neg (by omega), if_neg (show ¬ (g s 0 / 16 ≠ 4 ∨ hl s < 20 ∨ 32768 ≤ sh s 6) from ho)]
  split at hn
  · rename_i h1; rw [if_pos h1, hn]
  · rename_i h1; rw [if_neg h1]
    split at hn
    · rename_i h2; rw [if_pos h2, hn]
    · rename_i h2; rw [if_neg h2]
      split at hn
      · rename_i h3; rw [if_pos h3, hn]
      · rename_i h3; rw [if_neg h3]
        split at hn
        · rename_i h4; rw [if_pos h4, hn]
        · omega
theorem sizes_zero (s : List UInt8) (hn : sizes s = 0) : hl s ≤ s.length ∧ sh s 2 = s.length ∧ hl s ≤ sh s 2 := by
  unfold sizes at hn
  split at hn
  · omega
  · split at hn
    · omega
    · split at hn
      · omega
      · split at hn <;> omega
theorem parse_rest (s : List UInt8) (h : 20 ≤ s.length) (ho : ¬ off s) (hn : sizes s = 0) : parse s = if M.ofs [ba (s.take (hl s))] ≠ 0 then .error 4
    else match O.parse ((s.drop 20).take (hl s - 20)) with
    | .error e => .error e
    | .ok l => if 65535 < sh s 6 % 8192 * 8 + (s.length - hl s) then .error 3 else .ok (pkt s l) := by
  have := sizes_zero s hn
  unfold parse
  rw [if_neg (by omega), if_neg (show ¬ (g s 0 / 16 ≠ 4 ∨ hl s < 20 ∨ 32768 ≤ sh s 6) from ho), if_neg (by omega), if_neg (by omega), if_neg (by omega), if_neg (by omega)]
  rfl
theorem hl_20 (s : List UInt8) (ho : ¬ off s) : 20 ≤ hl s := by
  unfold off at ho
  omega
end H

set_option maxHeartbeats 4000000 in
theorem steps_any (s : List UInt8) (w : World) (hs : s.length ≤ 90000) :
    Calls Tryz.prog 31 #[.string (ba s)] w (Steps s w) := by
  have GE : Hid (∀ n w', H.parse s = .error n → Below w.heap.size w w' → Steps s w (.returned (.tuple #[.pointer none, .int .i64 n])) w') := Lib.hid fun n w' h1 h2 => steps_err h1 h2
  have GO : Hid (∀ l p r ao cp w', H.parse s = .ok (H.pkt s l) → Hd w.heap.size p r s s.length (cs3 r s (.slice ao l.length cp)) w' → OptRow w' ao l → Below w.heap.size w w' → Steps s w (.returned (.tuple #[.pointer (some ⟨p, 0, none⟩), .int .i64 0])) w') := Lib.hid fun l p r ao cp w' h1 h2 h3 h4 => steps_ok h1 h2 h3 h4
  generalize hG : Steps s w = G at *
  clear hG
  have i0 := pick0
  have i1 := pick1
  have i2 := pick2
  have i3 := pick3
  have i4 := pick4
  go_enter Tryz.func31, Tryz.ntmps31
  go_wp2_with fail
  refine (Read_any (ba s) w).mono ?_
  rintro e w1 ⟨rfl, hr1, hb1⟩
  have hb1s := hb1.size
  have hlt1 := lt_of_block hr1.cells
  go_wp2
  have h0 : Hd w.heap.size w1.heap.size w.heap.size s 0 (cs0 w.heap.size s) (w1.alloc (.cells (cs0 w.heap.size s) 62)) :=
    ⟨hb1s, by omega, heap_alloc_new w1 _, ⟨hr1.low, (Below.heap_alloc w1 _ _ hlt1).trans hr1.cells⟩⟩
  have hb : Below w.heap.size w (w1.alloc (.cells (cs0 w.heap.size s) 62)) := hb1.alloc hb1s _
  unfold cs0 at h0 hb
  clear hr1 hb1
  generalize (w1.alloc _) = w2 at *
  generalize w1.heap.size = p at *
  generalize hB : w.heap.size = B at *
  clear hB hb1s hlt1
  have H0 := Lib.hid h0
  clear h0
  refine wp_loop_rounds 6 ?_
  rw [rounds_succ]
  go_wp2_with fail
  refine (fixed_any B p B s w2 H0.out hs).mono ?_
  rintro e w3 hf
  rcases hf with ⟨hl, rfl, hbn⟩ | ⟨hl, ho, rfl, hbn⟩ | ⟨hl, ho, rfl, h3, hbn⟩
  · have hbw := hb.trans hbn
    clear hb hbn H0
    go_wp2
    exact GE.out 2 _ (H.parse_short s hl) hbw
  · have hbw := hb.trans hbn
    clear hb hbn H0
    go_wp2
    exact GE.out 3 _ (H.parse_off s hl ho) hbw
  · have hb3 := hb.trans hbn
    have H3 := Lib.hid h3
    have Ho := Lib.hid ho
    clear hb hbn H0 h3 ho
    go_wp2_with fail
    rw [rounds_succ]
    go_wp2_with fail
    refine (sizes_any B p B s w3 H3.out hs).mono ?_
    rintro e w4 ⟨rfl, h4, hbn⟩
    have hb4 := hb3.trans hbn
    have H4 := Lib.hid h4
    clear hb3 hbn H3 h4
    by_cases hz : H.sizes s = 0
    · have Hz := Lib.hid hz
      rw [hz]
      clear hz
      obtain ⟨q1, q2, q3⟩ := H.sizes_zero s Hz.out
      have q4 := H.hl_20 s Ho.out
      have Hrest := Lib.hid (H.parse_rest s hl Ho.out Hz.out)
      clear q2 q3
      go_wp2_with fail
      rw [rounds_succ]
      go_wp2_with fail
      by_cases hg : M.ofs [ba (s.take (H.hl s))] = 0
      · have Hg := Lib.hid hg
        refine (good_step B p B s w4 H4.out q1 true (by rw [decide_eq_true hg]) 0 rfl).mono ?_
        rintro e w5 ⟨rfl, h5, hbn⟩
        have hb5 := hb4.trans hbn
        have H5 := Lib.hid h5
        clear hb4 hbn H4 h5 hg
        go_wp2_with fail
        rw [rounds_succ]
        go_wp2_with fail
        cases hp : O.parse ((s.drop 20).take (H.hl s - 20)) with
        | error n =>
          have hn := O.parse_err _ _ hp
          have Hp := Lib.hid hp
          refine (options_err B p B s w5 H5.out hs q1 q4 n hp).mono ?_
          rintro e w6 ⟨rfl, hbn⟩
          have hb6 := hb5.trans hbn
          have hne : ((n : Int) != 0) = true := by simp; omega
          clear hb5 hbn H5 hp
          go_wp2
          exact GE.out n _ (by rw [Hrest.out, if_neg (by rw [Hg.out]; simp), Hp.out]) hb6
        | ok l =>
          have Hp := Lib.hid hp
          refine (options_ok B p B s w5 H5.out hs q1 q4 l hp).mono ?_
          rintro e w6 ⟨rfl, ⟨ao, cp, h6, hrow6, haw⟩, hbn⟩
          have hb6 := hb5.trans hbn
          have H6 := Lib.hid h6
          have Hrow := Lib.hid hrow6
          have Haw := Lib.hid haw
          clear hb5 hbn H5 hp h6 hrow6 haw
          go_wp2_with fail
          rw [rounds_succ]
          go_wp2_with fail
          by_cases hd : 65535 < H.sh s 6 % 8192 * 8 + (s.length - H.hl s)
          · have Hd' := Lib.hid hd
            refine (data_any B p B s _ w6 H6.out hs q1 3 (by rw [if_pos hd])).mono ?_
            rintro e w7 ⟨rfl, h7, ho7, hbn⟩
            have hb7 := hb6.trans hbn
            clear hb6 hbn H6 h7 ho7 hd
            go_wp2
            exact GE.out 3 _ (by rw [Hrest.out, if_neg (by rw [Hg.out]; simp), Hp.out]; exact if_pos Hd'.out) hb7
          · have Hd' := Lib.hid hd
            refine (data_any B p B s _ w6 H6.out hs q1 0 (by rw [if_neg hd])).mono ?_
            rintro e w7 ⟨rfl, h7, ho7, hbn⟩
            have hb7 := hb6.trans hbn
            have H7 := Lib.hid h7
            have Hrow7 := Lib.hid (ho7 ao l Hrow.out Haw.out)
            clear hb6 hbn H6 h7 ho7 hd Hrow
            go_wp2_with fail
            rw [rounds_succ]
            go_wp2
            exact GO.out l p B ao cp _ (by rw [Hrest.out, if_neg (by rw [Hg.out]; simp), Hp.out]; exact if_neg Hd'.out) H7.out Hrow7.out hb7
      · have Hg := Lib.hid hg
        refine (good_step B p B s w4 H4.out q1 false (by rw [decide_eq_false hg]) 4 rfl).mono ?_
        rintro e w5 ⟨rfl, h5, hbn⟩
        have hb5 := hb4.trans hbn
        clear hb4 hbn H4 h5 hg
        go_wp2
        exact GE.out 4 _ (by rw [Hrest.out, if_pos Hg.out]) hb5
    · have hp := H.parse_size s hl Ho.out _ rfl hz
      have Hp := Lib.hid hp
      clear hp
      generalize H.sizes s = v at *
      have hne : ((v : Int) != 0) = true := by simp; omega
      go_wp2
      exact GE.out v _ Hp.out hb4
#print axioms steps_any
end Go.Proofs.YtncnildpbccpaaaGreatDoor

namespace Go.Proofs.YtncnildpbccpaaaGreatDoor
open Go.RowKit

/-- No packet. -/
abbrev zeroV : Value := .agg #[.int .i64 0, .int .i64 0, .bool false, .bool false, .int .i64 0, .int .i64 0, .int .i64 0, .int .u32 0, .int .u32 0, .slice none 0 0, .string ⟨#[]⟩]
/-- A packet, its options being v. -/
def pktV (k : Pkt) (v : Value) : Value := .agg #[.int .i64 k.tos, .int .i64 k.id, .bool k.df, .bool k.mf, .int .i64 k.offset, .int .i64 k.ttl, .int .i64 k.proto, .int .u32 k.src, .int .u32 k.dst, v, .string k.data]

/-- How a Parse of a packet ends. -/
def HParsed (x : Except Nat Pkt) (w : World) (e : Ending) (w' : World) : Prop :=
  match x with
  | .error n => e = .returned (.tuple #[zeroV, .int .i64 n]) ∧ Below w.heap.size w w'
  | .ok k => ∃ ao cp, e = .returned (.tuple #[pktV k (.slice ao k.opts.length cp), .int .i64 0]) ∧ OptRow w' ao k.opts ∧ Below w.heap.size w w'

set_option maxHeartbeats 1000000 in
theorem hparse_err (s : List UInt8) (w : World) (hs : s.length ≤ 90000) (n : Nat) (hn : 2 ≤ n) (hp : H.parse s = .error n) :
    Calls Tryz.prog 13 #[.string (ba s)] w (HParsed (.error n) w) := by
  have Hs := Lib.hid (fun w => steps_any s w hs)
  have hne : ((n : Int) != 0) = true := by simp; omega
  have Hn : Hid (∀ w e w', Steps s w e w' → e = .returned (.tuple #[.pointer none, .int .i64 n]) ∧ Below w.heap.size w w') := Lib.hid (by intro w e w' h; unfold Steps at h; rw [hp] at h; exact h)
  clear hp
  go_enter Tryz.func13, Tryz.ntmps13
  go_wp2_with fail
  refine (Hs.out _).mono ?_
  rintro e w1 hst
  obtain ⟨rfl, hb1⟩ := Hn.out _ _ _ hst
  clear hst
  have hN : w.heap.size < w1.heap.size := by have := hb1.size; simp at this; omega
  have hcell : ∀ i : Nat, w1.cell? ⟨w.heap.size, i, none⟩ = (w.alloc (.cells #[.int .i64 0, .int .i64 0, .bool false, .bool false, .int .i64 0, .int .i64 0, .int .i64 0, .int .u32 0, .int .u32 0, .slice none 0 0, .string ⟨#[]⟩] 25)).cell? ⟨w.heap.size, i, none⟩ := fun i => hb1.cell (p := ⟨w.heap.size, i, none⟩) (by simp)
  have hfz : ∀ i : Nat, w1.frozen? ⟨w.heap.size, i, none⟩ = (w.alloc (.cells #[.int .i64 0, .int .i64 0, .bool false, .bool false, .int .i64 0, .int .i64 0, .int .i64 0, .int .u32 0, .int .u32 0, .slice none 0 0, .string ⟨#[]⟩] 25)).frozen? ⟨w.heap.size, i, none⟩ := fun i => hb1.frozen (p := ⟨w.heap.size, i, none⟩) (by simp)
  have hbw : Below w.heap.size w w1 := ((Below.refl _ w).alloc (Nat.le_refl _) _).trans (hb1.mono (by simp))
  go_wp2
  exact bodyPost_ret (v := .tuple #[zeroV, .int .i64 n]) (by simp [results, Tryz.results13, go_sem, hcell]) rfl ⟨rfl, ((((((((((hbw.setCell (Nat.le_refl _) _).setCell (Nat.le_refl _) _).setCell (Nat.le_refl _) _).setCell (Nat.le_refl _) _).setCell (Nat.le_refl _) _).setCell (Nat.le_refl _) _).setCell (Nat.le_refl _) _).setCell (Nat.le_refl _) _).setCell (Nat.le_refl _) _).setCell (Nat.le_refl _) _).setCell (Nat.le_refl _) _⟩

theorem row_sets {w : World} {ao : Option Addr} {l : List Opt} {N : Nat} (h : OptRow w ao l) (ha : OptAway N ao l) (v0 v1 v2 v3 v4 v5 v6 v7 v8 v9 v10 : Value) :
    OptRow (((((((((((w.setCell ⟨N, 0, none⟩ v0).setCell ⟨N, 1, none⟩ v1).setCell ⟨N, 2, none⟩ v2).setCell ⟨N, 3, none⟩ v3).setCell ⟨N, 4, none⟩ v4).setCell ⟨N, 5, none⟩ v5).setCell ⟨N, 6, none⟩ v6).setCell ⟨N, 7, none⟩ v7).setCell ⟨N, 8, none⟩ v8).setCell ⟨N, 9, none⟩ v9).setCell ⟨N, 10, none⟩ v10) ao l :=
  ((((((((((h.set ha 0 _).set ha 1 _).set ha 2 _).set ha 3 _).set ha 4 _).set ha 5 _).set ha 6 _).set ha 7 _).set ha 8 _).set ha 9 _).set ha 10 _

/-- Options don't lie in a packet's block. -/
theorem away_pkt {w : World} {N : Nat} {ao : Option Addr} {l : List Opt} {a b e f g : Int} {c d : Bool} {s t : Int} {v : Value} {x : ByteArray} (hc : w.heap[N]? = some (.cells #[.int .i64 a, .int .i64 b, .bool c, .bool d, .int .i64 e, .int .i64 f, .int .i64 g, .int .u32 s, .int .u32 t, .slice none 0 0, .string x] 25 (0, 0))) (ho : OptRow w ao l) (_hv : v = .slice none 0 0) : OptAway N ao l := by
  rcases ho with ho | ⟨b, off, rfl, hlt, hcc⟩
  · exact .inl ho
  · cases hl : l with
    | nil => exact .inl rfl
    | cons o t =>
      refine .inr fun a ha e => ?_
      cases ha
      simp only at e
      subst e
      obtain ⟨h1, h2⟩ := hcc 0 (by rw [hl]; simp)
      simp only [World.cell?, hc, Nat.zero_mul, Nat.add_zero] at h1 h2
      match off, h1, h2 with
      | 0, _, h2 => simp at h2
      | 1, _, h2 => simp at h2
      | 2, h1, _ => simp at h1
      | 3, h1, _ => simp at h1
      | 4, _, h2 => simp at h2
      | 5, _, h2 => simp at h2
      | 6, _, h2 => simp at h2
      | 7, h1, _ => simp at h1
      | 8, h1, _ => simp at h1
      | 9, h1, _ => simp at h1
      | 10, h1, _ => simp at h1
      | j + 11, h1, _ => simp at h1

set_option maxHeartbeats 2000000 in
theorem hparse_ok (s : List UInt8) (w : World) (hs : s.length ≤ 90000) (l : List Opt) (hp : H.parse s = .ok (H.pkt s l)) :
    Calls Tryz.prog 13 #[.string (ba s)] w (HParsed (.ok (H.pkt s l)) w) := by
  have Hs := Lib.hid (fun w => steps_any s w hs)
  have Hn : Hid (∀ w e w', Steps s w e w' → ∃ p r ao cp, e = .returned (.tuple #[.pointer (some ⟨p, 0, none⟩), .int .i64 0]) ∧ Hd w.heap.size p r s s.length (cs3 r s (.slice ao l.length cp)) w' ∧ OptRow w' ao l ∧ Below w.heap.size w w') := Lib.hid (by intro w e w' h; unfold Steps at h; rw [hp] at h; exact h)
  have HG : Hid (∀ ao cp w', OptRow w' ao l → Below w.heap.size w w' → HParsed (.ok (H.pkt s l)) w (.returned (.tuple #[pktV (H.pkt s l) (.slice ao l.length cp), .int .i64 0])) w') := Lib.hid fun ao cp w' h1 h2 => ⟨ao, cp, rfl, h1, h2⟩
  have Hv : Hid (∀ ao cp, pktV (H.pkt s l) (.slice ao l.length cp) = .agg #[.int .i64 (H.g s 1), .int .i64 (H.sh s 4), .bool (H.sh s 6 / 16384 % 2 == 1), .bool (H.sh s 6 / 8192 % 2 == 1), .int .i64 ((H.sh s 6 % 8192 * 8 : Nat) : Int), .int .i64 (H.g s 8), .int .i64 (H.g s 9), .int .u32 (H.wd s 12), .int .u32 (H.wd s 16), .slice ao l.length cp, .string (ba (s.drop (H.hl s)))]) := Lib.hid fun _ _ => rfl
  generalize hG : HParsed (.ok (H.pkt s l)) w = G at *
  clear hG hp
  go_enter Tryz.func13, Tryz.ntmps13
  go_wp2_with fail
  refine (Hs.out _).mono ?_
  rintro e w1 hst
  obtain ⟨p, r, ao, cp, rfl, h1, hrow, hb1⟩ := Hn.out _ _ _ hst
  clear hst
  have hN : w.heap.size < w1.heap.size := by have := hb1.size; simp at this; omega
  have hNc : w1.heap[w.heap.size]? = some (.cells #[.int .i64 0, .int .i64 0, .bool false, .bool false, .int .i64 0, .int .i64 0, .int .i64 0, .int .u32 0, .int .u32 0, .slice none 0 0, .string ⟨#[]⟩] 25 (0, 0)) := (hb1.block w.heap.size (by simp)).trans (heap_alloc_new w _)
  have haw := away_pkt hNc hrow rfl
  have hcell : ∀ i : Nat, w1.cell? ⟨w.heap.size, i, none⟩ = (w.alloc (.cells #[.int .i64 0, .int .i64 0, .bool false, .bool false, .int .i64 0, .int .i64 0, .int .i64 0, .int .u32 0, .int .u32 0, .slice none 0 0, .string ⟨#[]⟩] 25)).cell? ⟨w.heap.size, i, none⟩ := fun i => hb1.cell (p := ⟨w.heap.size, i, none⟩) (by simp)
  have hfz : ∀ i : Nat, w1.frozen? ⟨w.heap.size, i, none⟩ = (w.alloc (.cells #[.int .i64 0, .int .i64 0, .bool false, .bool false, .int .i64 0, .int .i64 0, .int .i64 0, .int .u32 0, .int .u32 0, .slice none 0 0, .string ⟨#[]⟩] 25)).frozen? ⟨w.heap.size, i, none⟩ := fun i => hb1.frozen (p := ⟨w.heap.size, i, none⟩) (by simp)
  have hbw : Below w.heap.size w w1 := ((Below.refl _ w).alloc (Nat.le_refl _) _).trans (hb1.mono (by simp))
  have k4 := h1.at 4 (.int .i64 (H.g s 1)) rfl
  have k5 := h1.at 5 (.int .i64 (H.sh s 4)) rfl
  have k6 := h1.at 6 (.bool (H.sh s 6 / 16384 % 2 == 1)) rfl
  have k7 := h1.at 7 (.bool (H.sh s 6 / 8192 % 2 == 1)) rfl
  have k8 := h1.at 8 (.int .i64 ((H.sh s 6 % 8192 * 8 : Nat) : Int)) rfl
  have k9 := h1.at 9 (.int .i64 (H.g s 8)) rfl
  have k10 := h1.at 10 (.int .i64 (H.g s 9)) rfl
  have k11 := h1.at 11 (.int .u32 (H.wd s 12)) rfl
  have k12 := h1.at 12 (.int .u32 (H.wd s 16)) rfl
  have k13 := h1.at 13 (.slice ao l.length cp) rfl
  have k14 := h1.at 14 (.string (ba (s.drop (H.hl s)))) rfl
  have Hend := Lib.hid (HG.out ao cp _ (row_sets hrow haw (.int .i64 (H.g s 1)) (.int .i64 (H.sh s 4)) (.bool (H.sh s 6 / 16384 % 2 == 1)) (.bool (H.sh s 6 / 8192 % 2 == 1)) (.int .i64 ((H.sh s 6 % 8192 * 8 : Nat) : Int)) (.int .i64 (H.g s 8)) (.int .i64 (H.g s 9)) (.int .u32 (H.wd s 12)) (.int .u32 (H.wd s 16)) (.slice ao l.length cp) (.string (ba (s.drop (H.hl s))))) (((((((((((hbw.setCell (Nat.le_refl _) _).setCell (Nat.le_refl _) _).setCell (Nat.le_refl _) _).setCell (Nat.le_refl _) _).setCell (Nat.le_refl _) _).setCell (Nat.le_refl _) _).setCell (Nat.le_refl _) _).setCell (Nat.le_refl _) _).setCell (Nat.le_refl _) _).setCell (Nat.le_refl _) _).setCell (Nat.le_refl _) _))
  rw [Hv.out] at Hend
  clear h1 hrow haw hNc HG Hv
  generalize H.g s 1 = y1 at *
  generalize H.sh s 4 = y2 at *
  generalize (H.sh s 6 / 16384 % 2 == 1) = y3 at *
  generalize (H.sh s 6 / 8192 % 2 == 1) = y4 at *
  generalize H.sh s 6 % 8192 * 8 = y5 at *
  generalize H.g s 8 = y6 at *
  generalize H.g s 9 = y7 at *
  generalize H.wd s 12 = y8 at *
  generalize H.wd s 16 = y9 at *
  generalize ba (s.drop (H.hl s)) = y10 at *
  go_wp2_with fail
  exact bodyPost_ret (v := .tuple #[.agg #[.int .i64 y1, .int .i64 y2, .bool y3, .bool y4, .int .i64 y5, .int .i64 y6, .int .i64 y7, .int .u32 y8, .int .u32 y9, .slice ao l.length cp, .string y10], .int .i64 0]) (by simp [results, Tryz.results13, go_sem, hcell]) rfl Hend.out
#print axioms hparse_ok
end Go.Proofs.YtncnildpbccpaaaGreatDoor

namespace Go.Proofs.YtncnildpbccpaaaGreatDoor
open Go.RowKit

theorem ba_get (s : List UInt8) (a : Nat) (h : a < (ba s).size) : (ba s)[a].toNat = H.g s a := by
  have h' : a < s.length := h
  unfold H.g
  rw [List.getD_eq_getElem?_getD, List.getElem?_eq_getElem h']
  rfl

end Go.Proofs.YtncnildpbccpaaaGreatDoor

