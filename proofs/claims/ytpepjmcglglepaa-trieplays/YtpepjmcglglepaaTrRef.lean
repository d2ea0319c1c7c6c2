/- The document's answers on routes: the place of a prefix; what is wrong with one more. -/
import Derived.Test.YtpepjmcglglepaaTrOrders
namespace Go.Proofs.Ytpepjmcglglepaa
open Go.RowKit
set_option maxRecDepth 100000
set_option linter.unusedVariables false
open R

/-- The first place of what something holds of; -1: there is none. -/
def R.IsIx (p : Rt → Prop) (l : List Rt) (z : Int) : Prop := (z = -1 ∧ ∀ j, j < l.length → ¬ p (l.getD j zR)) ∨ ∃ k : Nat, k < l.length ∧ z = k ∧ p (l.getD k zR)
theorem RtOwn.row {base : Nat} {ao : Option Addr} {cap : Nat} {rs : List Rt} {w : World} (h : RtOwn base ao cap rs w) : RtRow w ao rs := fun h0 => by
  obtain ⟨g, cur, rfl, _, hg, hc⟩ := Own.at h h0
  refine ⟨g, 0, rfl, heap_lt hg, fun k hk j v hv => ?_⟩
  have hj : j < 3 := (List.getElem?_eq_some_iff.1 hv).1
  rw [Nat.zero_add]
  exact hc _ _ (by rw [routesX_at rs k j hk hj]; exact hv)

set_option maxHeartbeats 4000000 in
theorem RGet_any (ao : Option Addr) (cap : Nat) (l : List Rt) (a : Nat) (b : Int) (w : World) (hrow : RtRow w ao l) (hl : l.length ≤ 1000) :
    Calls Try.prog 8 #[.slice ao l.length cap, .agg #[.int .u32 a, .int .i64 b]] w fun e w' => ∃ z, e = .returned (.int .i64 z) ∧ R.IsIx (fun s => s.a = a ∧ s.b = b) l z ∧ Below w.heap.size w w' := by
  have HRow := Lib.hid hrow
  have hb0 : Below w.heap.size w (w.alloc (.cells #[.int .u32 a, .int .i64 b] 29)) := (Below.refl _ w).alloc (Nat.le_refl _) _
  have p00 : (w.alloc (.cells #[.int .u32 a, .int .i64 b] 29)).cell? ⟨w.heap.size, 0, none⟩ = some (.int .u32 a) := cells_new w [.int .u32 a, .int .i64 b] 29 0 _ rfl
  have p10 : (w.alloc (.cells #[.int .u32 a, .int .i64 b] 29)).cell? ⟨w.heap.size, 1, none⟩ = some (.int .i64 b) := cells_new w [.int .u32 a, .int .i64 b] 29 1 _ rfl
  clear hrow
  go_enter Try.func8, Try.ntmps8
  go_wp2
  go_loopw [5] (fun i wr => ∃ k : Nat, k ≤ l.length ∧ i = .int .i64 k ∧ Hid (∀ j, j < k → ¬ ((l.getD j zR).a = a ∧ (l.getD j zR).b = b)) ∧ wr.cell? ⟨w.heap.size, 0, none⟩ = some (.int .u32 a) ∧ wr.cell? ⟨w.heap.size, 1, none⟩ = some (.int .i64 b) ∧ Below w.heap.size w wr) (fun i _ => l.length - (intOf i).toNat)
  case atStart => exact ⟨0, Nat.zero_le _, rfl, Lib.hid fun j hj => absurd hj (Nat.not_lt_zero _), p00, p10, hb0⟩
  case round =>
    clear p00 p10 hb0
    obtain ⟨k, hk, rfl, hno, p0, p1, hb⟩ := hrel
    by_cases hkl : k < l.length
    · obtain ⟨bb, off, rfl, hcs⟩ := HRow.out.at2 k hkl
      obtain ⟨c0, c1, c2⟩ := hcs wr hb
      have hkl' : (k : Int) < (l.length : Int) := by omega
      have HX := Lib.hid (show ∀ h : (l.getD k zR).a = a ∧ (l.getD k zR).b = b, R.IsIx (fun s => s.a = a ∧ s.b = b) l k from fun h => .inr ⟨k, hkl, rfl, h⟩)
      have HNo : Hid (¬ ((l.getD k zR).a = a ∧ (l.getD k zR).b = b) → ∀ j, j < k + 1 → ¬ ((l.getD j zR).a = a ∧ (l.getD j zR).b = b)) := Lib.hid fun h j hj => by
        by_cases e : j = k
        · subst e; exact h
        · exact hno.out j (by omega)
      generalize l.getD k zR = r at *
      clear hcs hno
      cases g1 : (((r.a : Nat) : Int) == (a : Int)) <;> cases g2 : (r.b == b)
      case true.true =>
        have hp : r.a = a ∧ r.b = b := ⟨by have := beq_iff_eq.1 g1; omega, beq_iff_eq.1 g2⟩
        have HZ := Lib.hid (HX.out hp)
        clear HX HNo hp
        go_wp2
        go_quiet (fail)
        go_wp2
        go_ret
        exact ⟨k, rfl, HZ.out, below_drewN hb _⟩
      all_goals
        have hp : ¬ (r.a = a ∧ r.b = b) := fun h => by
          obtain ⟨h1, h2⟩ := h
          subst h1 h2
          simp at g1 g2
        have HZ := Lib.hid (HNo.out hp)
        clear HX HNo hp
        go_wp2
        go_quiet (fail)
        have hbq := below_drewN hb nq
        have pq0 : (wr.drewN nq).cell? ⟨w.heap.size, 0, none⟩ = some (.int .u32 a) := p0
        have pq1 : (wr.drewN nq).cell? ⟨w.heap.size, 1, none⟩ = some (.int .i64 b) := p1
        clear p0 p1 hb c0 c1 c2
        generalize wr.drewN nq = wr2 at *
        go_wp2
        go_roundw
        case rel => exact ⟨k + 1, by omega, by go_num, HZ, pq0, pq1, hbq⟩
        case measure => simp [intOf]; omega
    · obtain rfl : k = l.length := by omega
      have hkl' : ¬ (l.length : Int) < (l.length : Int) := by omega
      go_wp2
      go_ret
      exact ⟨-1, rfl, .inl ⟨rfl, hno.out⟩, hb⟩
theorem R.ix_has {a : Nat} {b : Int} {l : List Rt} {z : Int} (h : R.IsIx (fun s => s.a = a ∧ s.b = b) l z) : (0 ≤ z ↔ R.has l a b = true) := by
  rw [R.has_iff]
  rcases h with ⟨rfl, h⟩ | ⟨k, hk, rfl, h⟩
  · refine ⟨fun h0 => by omega, fun ⟨s, hs, h2⟩ => ?_⟩
    obtain ⟨j, hj, e⟩ := List.getElem_of_mem hs
    refine absurd ?_ (h j hj)
    rw [List.getD_eq_getElem?_getD, List.getElem?_eq_getElem hj]
    show l[j].a = a ∧ l[j].b = b
    rw [e]; exact h2
  · exact ⟨fun _ => ⟨_, getD_mem l k hk, h⟩, fun _ => by omega⟩

set_option maxHeartbeats 2000000 in
theorem RAdd_any (ao : Option Addr) (cap : Nat) (l : List Rt) (r : Rt) (w : World) (hrow : RtRow w ao l) (hl : l.length ≤ 1000) (ha : r.a < 4294967296) :
    Calls Try.prog 6 #[.slice ao l.length cap, Rt.agg r] w fun e w' => e = .returned (.int .i64 (R.addE l r : Nat)) ∧ Below w.heap.size w w' := by
  have hb0 : Below w.heap.size w (w.alloc (.cells #[.int .u32 r.a, .int .i64 r.b, .int .i64 r.o] 31)) := (Below.refl _ w).alloc (Nat.le_refl _) _
  have HB := Lib.hid (RBlk.new w r)
  have HRow := Lib.hid (hrow.below hb0)
  obtain ⟨E, hE⟩ : ∃ E, R.addE l r = E := ⟨_, rfl⟩
  have HE := Lib.hid hE
  rw [hE]
  clear hrow hE
  show Calls Try.prog 6 #[.slice ao l.length cap, .agg #[.int .u32 r.a, .int .i64 r.b, .int .i64 r.o]] w _
  go_enter Try.func6, Try.ntmps6
  go_wp2_with fail
  refine (refright_any r.a r.b _ ha).mono ?_
  rintro e w1 ⟨rfl, hb1⟩
  have HB1 := Lib.hid (HB.out.below hb1)
  have HRow1 := Lib.hid (HRow.out.below hb1)
  have hbw1 := hb0.trans (hb1.mono hb0.size)
  clear hb1 hb0 HB HRow
  obtain ⟨p0, p1, p2⟩ := HB1.out.cells
  cases hr : A.right r.a r.b
  · have e1 : E = 1 := by rw [← HE.out]; unfold R.addE; rw [if_pos hr]
    subst e1
    go_wp2
    go_ret
    exact ⟨rfl, hbw1⟩
  have Hr := Lib.hid hr
  go_wp2_with fail
  refine (RGet_any ao cap l r.a r.b w1 HRow1.out hl).mono ?_
  rintro e w2 ⟨z, rfl, hz, hb2⟩
  have hbw2 := hbw1.trans (hb2.mono hbw1.size)
  have HZ := Lib.hid (R.ix_has hz)
  clear hz hb2 p0 p1 p2 hr
  by_cases h0 : 0 ≤ z
  · have e1 : E = 7 := by rw [← HE.out]; unfold R.addE; rw [if_neg (by rw [Hr.out]; simp), if_pos (HZ.out.1 h0)]
    subst e1
    go_wp2
    go_ret
    exact ⟨rfl, hbw2⟩
  · have h0' : z < 0 := by omega
    by_cases hf : 256 ≤ l.length
    · have e1 : E = 9 := by rw [← HE.out]; unfold R.addE; rw [if_neg (by rw [Hr.out]; simp), if_neg (fun h => h0 (HZ.out.2 h)), if_pos hf]
      subst e1
      have hf' : (256 : Int) ≤ (l.length : Int) := by omega
      go_wp2
      go_ret
      exact ⟨rfl, hbw2⟩
    · have e1 : E = 0 := by rw [← HE.out]; unfold R.addE; rw [if_neg (by rw [Hr.out]; simp), if_neg (fun h => h0 (HZ.out.2 h)), if_neg hf]
      subst e1
      have hf' : ¬ (256 : Int) ≤ (l.length : Int) := by omega
      go_wp2
      go_ret
      exact ⟨rfl, hbw2⟩
#print axioms RAdd_any
end Go.Proofs.Ytpepjmcglglepaa
