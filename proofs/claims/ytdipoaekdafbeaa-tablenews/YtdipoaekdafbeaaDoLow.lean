/- Rows of pairs; how a pair is looked at; the map that pairs make. -/
import Derived.Test.YtdipoaekdafbeaaDoMath
import Derived.Test.YtdipoaekdafbeaaCtGen
import Derived.WalkSpells
import Derived.WalkSmall
namespace Go.Proofs.Ytdipoaekdafbeaa
open Go.RowKit Go.Maps
set_option maxRecDepth 100000
set_option linter.unusedVariables false
open D

def PRow (w : World) (a : Option Addr) (l : Pairs) : Prop := 0 < l.length → ∃ b off, a = some ⟨b, off, none⟩ ∧ b < w.heap.size ∧ ∀ k, k < l.length →
  w.cell? ⟨b, off + k * 2, none⟩ = some (.int .i64 (pt l k).1) ∧ w.cell? ⟨b, off + k * 2 + 1, none⟩ = some (.int .i64 (pt l k).2)
theorem PRow.then {W wr : World} {a : Option Addr} {l : Pairs} (h : PRow W a l) (hb : Below W.heap.size W wr) (k : Nat) (hk : k < l.length) : ∃ b off, a = some ⟨b, off, none⟩ ∧ b < W.heap.size ∧
    wr.cell? ⟨b, off + k * 2, none⟩ = some (.int .i64 (pt l k).1) ∧ wr.cell? ⟨b, off + k * 2 + 1, none⟩ = some (.int .i64 (pt l k).2) := by
  obtain ⟨b, off, ha, hlt, hc⟩ := h (by omega)
  exact ⟨b, off, ha, hlt, (hb.cell (p := ⟨b, off + k * 2, none⟩) hlt).trans (hc k hk).1, (hb.cell (p := ⟨b, off + k * 2 + 1, none⟩) hlt).trans (hc k hk).2⟩
theorem PRow.below {w w' : World} {a : Option Addr} {l : Pairs} (h : PRow w a l) (hb : Below w.heap.size w w') : PRow w' a l := fun h0 => by
  obtain ⟨b, off, ha, hlt, hc⟩ := h h0
  exact ⟨b, off, ha, Nat.lt_of_lt_of_le hlt hb.size, fun k hk => ⟨(hb.cell (p := ⟨b, off + k * 2, none⟩) hlt).trans (hc k hk).1, (hb.cell (p := ⟨b, off + k * 2 + 1, none⟩) hlt).trans (hc k hk).2⟩⟩
def I64 (x : Int) : Prop := -9223372036854775808 ≤ x ∧ x ≤ 9223372036854775807
def PWf (l : Pairs) : Prop := ∀ k, k < l.length → I64 (pt l k).1 ∧ I64 (pt l k).2
theorem I64.wf {x : Int} (h : I64 x) : (Lit.int .i64 x).wf = true := WalkArith.wf_i64 h

/-- How pairs are looked at. -/
def lookV (b : Bool) : Value := .func (.func (if b then 35 else 34)) #[] #[]
theorem keyInt : Keyed Try.prog 3 := int_keyed Try.underlying3
theorem zeroInt (w : World) : (zeroValue 3).run Try.prog w = .ok (.int .i64 0) w := by kernel_rfl
theorem run_makeMap_hint (n : Int) (w : World) : (Instr.makeMap 91 (some (.int .i64 n))).run Try.prog w = .ok (.map (some w.heap.size)) (w.alloc (.map #[] 0)) := by
  simp [Instr.makeMap, run_underlying Try.underlying91, asInt, asIntOf, Result.andThen, newObj]
  rfl
theorem ownsMap_below {H : Type} {P : Program} {k : TypeId} {R : Value → Option (DataW H × List MemPlace)} {w w' : World} {b n B : Nat} {D : DataW H} (h : w.ownsMap P k R b n D) (hb : Below B w w') (hg : b < B) : w'.ownsMap P k R b n D := by
  obtain ⟨es, clock, h1, h2⟩ := h
  exact ⟨es, clock, (hb.block b hg).trans h1, h2⟩

set_option maxHeartbeats 2000000 in
theorem look_out (x y : Int) (w : World) : Calls Try.prog 34 #[.agg #[.int .i64 x, .int .i64 y]] w fun e w' => e = .returned (.tuple #[.int .i64 x, .int .i64 y]) ∧ Below w.heap.size w w' := by
  have hb : Below w.heap.size w (w.alloc (.cells #[.int .i64 x, .int .i64 y] 67)) := (Below.refl _ w).alloc (Nat.le_refl _) _
  go_enter Try.func34, Try.ntmps34
  go_wp2
  go_quiet (fail)
  go_wp2
  go_ret2
  exact ⟨rfl, by first | exact below_drewN hb 1 | exact hb.drew | exact below_drewN hb _⟩

set_option maxHeartbeats 4000000 in
theorem met_out (a : Option Addr) (cap : Nat) (l : Pairs) (w : World) (h : PRow w a l) (hl : l.length ≤ 1000) (hw : PWf l) :
    Calls Try.prog 56 #[.slice a l.length cap, lookV false] w fun e w' => ∃ g, e = .returned (.map (some g)) ∧ w'.ownsMap Try.prog 3 (plainElem Try.prog 3) g l.length (metD false l) ∧ w.heap.size ≤ g ∧ Below w.heap.size w w' := by
  have Hrow := Lib.hid h
  clear h
  have hmm := run_makeMap_hint
  rw [show lookV false = .func (.func 34) #[] #[] from rfl]
  go_enter Try.func56, Try.ntmps56
  go_wp2
  go_loopw [15] (fun i wr => ∃ k : Nat, k ≤ l.length ∧ i = .int .i64 k ∧ Below w.heap.size w wr ∧ wr.ownsMap Try.prog 3 (plainElem Try.prog 3) w.heap.size k (metD false (l.take k))) (fun i _ => l.length - (intOf i).toNat)
  case atStart => exact ⟨0, Nat.zero_le _, rfl, (Below.refl _ w).alloc (Nat.le_refl _) _, World.ownsMap_made _ _ _ _⟩
  case round =>
    obtain ⟨k, hk, rfl, hb, hown⟩ := hrel
    have hbs := hb.size
    by_cases hlt : k < l.length
    · obtain ⟨b, off, rfl, hbl, c0, c1⟩ := Hrow.out.then hb k hlt
      have Ht := Lib.hid (metD_take false l k hlt)
      have hwk := hw k hlt
      generalize hp : pt l k = p at *
      obtain ⟨x, y⟩ := p
      have HO := Lib.hid hown
      have hkm : k < maxLen := by unfold maxLen; omega
      have hlt' : (k : Int) < (l.length : Int) := by omega
      clear hmm hown hp
      go_wp2_with fail
      refine (look_out x y _).mono ?_
      rintro e w2 ⟨rfl, hb2⟩
      have hbw : Below w.heap.size w w2 := (hb.alloc hbs _).trans (hb2.mono (by simp; omega))
      have hown2 := ownsMap_below (HO.out.alloc (.cells #[.int .i64 x, .int .i64 y] 67)) hb2 (by have := HO.out.lt; simp; omega)
      go_wp2_with (at_mapUpdate; refine wpList_mapUpdate_own _ rfl _ _ _ 91 rfl 3 3 keyInt Try.underlying91 _ w.heap.size k _ rfl hown2 hkm _ _ _ rfl rfl (keyOf_int_mk Try.underlying3 (I64.wf (by first | exact hwk.1 | exact hwk.2))) _ [] (plainElem_int Try.underlying3 (I64.wf (by first | exact hwk.2 | exact hwk.1))) ?_; intro w3 hown3 hgrow3)
      go_roundw
      case rel => exact ⟨k + 1, by omega, by go_num, hbw.grown hgrow3 hbw.size (fun j hj => by cases hj; exact Nat.le_refl _), by rw [Ht.out]; exact hown3⟩
      case measure => simp [intOf]; omega
    · obtain rfl : k = l.length := by omega
      rw [List.take_length] at hown
      have HO := Lib.hid hown
      have hlt' : ¬ (l.length : Int) < (l.length : Int) := by omega
      clear hmm hown
      go_wp2
      go_ret
      exact ⟨_, rfl, HO.out, Nat.le_refl _, hb⟩

set_option maxHeartbeats 2000000 in
theorem look_back (x y : Int) (w : World) : Calls Try.prog 35 #[.agg #[.int .i64 x, .int .i64 y]] w fun e w' => e = .returned (.tuple #[.int .i64 y, .int .i64 x]) ∧ Below w.heap.size w w' := by
  have hb : Below w.heap.size w (w.alloc (.cells #[.int .i64 x, .int .i64 y] 67)) := (Below.refl _ w).alloc (Nat.le_refl _) _
  go_enter Try.func35, Try.ntmps35
  go_wp2
  go_quiet (fail)
  go_wp2
  go_ret2
  exact ⟨rfl, by first | exact below_drewN hb 1 | exact hb.drew | exact below_drewN hb _⟩

set_option maxHeartbeats 4000000 in
theorem met_back (a : Option Addr) (cap : Nat) (l : Pairs) (w : World) (h : PRow w a l) (hl : l.length ≤ 1000) (hw : PWf l) :
    Calls Try.prog 56 #[.slice a l.length cap, lookV true] w fun e w' => ∃ g, e = .returned (.map (some g)) ∧ w'.ownsMap Try.prog 3 (plainElem Try.prog 3) g l.length (metD true l) ∧ w.heap.size ≤ g ∧ Below w.heap.size w w' := by
  have Hrow := Lib.hid h
  clear h
  have hmm := run_makeMap_hint
  rw [show lookV true = .func (.func 35) #[] #[] from rfl]
  go_enter Try.func56, Try.ntmps56
  go_wp2
  go_loopw [15] (fun i wr => ∃ k : Nat, k ≤ l.length ∧ i = .int .i64 k ∧ Below w.heap.size w wr ∧ wr.ownsMap Try.prog 3 (plainElem Try.prog 3) w.heap.size k (metD true (l.take k))) (fun i _ => l.length - (intOf i).toNat)
  case atStart => exact ⟨0, Nat.zero_le _, rfl, (Below.refl _ w).alloc (Nat.le_refl _) _, World.ownsMap_made _ _ _ _⟩
  case round =>
    obtain ⟨k, hk, rfl, hb, hown⟩ := hrel
    have hbs := hb.size
    by_cases hlt : k < l.length
    · obtain ⟨b, off, rfl, hbl, c0, c1⟩ := Hrow.out.then hb k hlt
      have Ht := Lib.hid (metD_take true l k hlt)
      have hwk := hw k hlt
      generalize hp : pt l k = p at *
      obtain ⟨x, y⟩ := p
      have HO := Lib.hid hown
      have hkm : k < maxLen := by unfold maxLen; omega
      have hlt' : (k : Int) < (l.length : Int) := by omega
      clear hmm hown hp
      go_wp2_with fail
      refine (look_back x y _).mono ?_
      rintro e w2 ⟨rfl, hb2⟩
      have hbw : Below w.heap.size w w2 := (hb.alloc hbs _).trans (hb2.mono (by simp; omega))
      have hown2 := ownsMap_below (HO.out.alloc (.cells #[.int .i64 x, .int .i64 y] 67)) hb2 (by have := HO.out.lt; simp; omega)
      go_wp2_with (at_mapUpdate; refine wpList_mapUpdate_own _ rfl _ _ _ 91 rfl 3 3 keyInt Try.underlying91 _ w.heap.size k _ rfl hown2 hkm _ _ _ rfl rfl (keyOf_int_mk Try.underlying3 (I64.wf (by first | exact hwk.1 | exact hwk.2))) _ [] (plainElem_int Try.underlying3 (I64.wf (by first | exact hwk.2 | exact hwk.1))) ?_; intro w3 hown3 hgrow3)
      go_roundw
      case rel => exact ⟨k + 1, by omega, by go_num, hbw.grown hgrow3 hbw.size (fun j hj => by cases hj; exact Nat.le_refl _), by rw [Ht.out]; exact hown3⟩
      case measure => simp [intOf]; omega
    · obtain rfl : k = l.length := by omega
      rw [List.take_length] at hown
      have HO := Lib.hid hown
      have hlt' : ¬ (l.length : Int) < (l.length : Int) := by omega
      clear hmm hown
      go_wp2
      go_ret
      exact ⟨_, rfl, HO.out, Nat.le_refl _, hb⟩

theorem met_any (b : Bool) (a : Option Addr) (cap : Nat) (l : Pairs) (w : World) (h : PRow w a l) (hl : l.length ≤ 1000) (hw : PWf l) :
    Calls Try.prog 56 #[.slice a l.length cap, lookV b] w fun e w' => ∃ g, e = .returned (.map (some g)) ∧ w'.ownsMap Try.prog 3 (plainElem Try.prog 3) g l.length (metD b l) ∧ w.heap.size ≤ g ∧ Below w.heap.size w w' := by
  cases b
  · exact met_out a cap l w h hl hw
  · exact met_back a cap l w h hl hw
#print axioms met_any
end Go.Proofs.Ytdipoaekdafbeaa
