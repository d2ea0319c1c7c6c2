/- The walks of whether two lists of options are the same. -/
import Derived.Test.YtncnildpbccpaaaDoorOptList
import Derived.Laws.StructEq
import Derived.Deep.QuietTactic
import Derived.BigQuiet
namespace Go.Proofs.YtncnildpbccpaaaDoor
set_option maxRecDepth 100000
open Go.RowKit

deriving instance DecidableEq for Opt

theorem below_drewN {base : Nat} {w w' : World} (h : Below base w w') (n : Nat) : Below base w (w'.drewN n) := by
  induction n with
  | zero => exact h
  | succ k ih => exact ih.drew

/-- The model's '!=' at two options. -/
theorem neq_opt (k1 k2 : Int) (d1 d2 : ByteArray) (w : World) : (binOp .neq 48 (.agg #[.int .i64 k1, .string d1]) (.agg #[.int .i64 k2, .string d2])).run Tryd.prog w = .ok (.bool (!(k1 == k2 && d1.toList == d2.toList))) w := by
  have u3 := Tryd.underlying3
  have a3 := Tryd.isAgg3
  have z3 := Tryd.sizeOf3
  have u9 := Tryd.underlying9
  have a9 := Tryd.isAgg9
  have z9 := Tryd.sizeOf9
  have hS : Tryd.prog.underlying 48 = some (.struct (Tryd.prog.fieldsOf 48)) := by kernel_rfl
  have hp : Tryd.prog.stoodInHeld 48 = false := by kernel_rfl
  rw [run_neq_struct, show (10000 : Nat) = 9999 + 1 from rfl, run_equalIn_agg w 9999 48 _ _ hS hp]
  simp only [Program.fieldsOf, Tryd.underlying48]
  go_simp
  by_cases h1 : k1 = k2
  · by_cases h2 : d1.toList = d2.toList <;> simp [h1, h2]
  · simp [h1]

theorem guard_opt : Tryd.prog.eqGuardType Tryd.prog.depth 48 = false := by kernel_rfl

theorem opt_ext {a b : Opt} : a = b ↔ (a.kind = b.kind ∧ a.data = b.data) := by
  cases a; cases b; simp

theorem eq_opt (k1 k2 : Int) (d1 d2 : ByteArray) : (k1 == k2 && d1.toList == d2.toList) = decide ((⟨k1, d1⟩ : Opt) = ⟨k2, d2⟩) := by
  rw [Bool.eq_iff_iff, Bool.and_eq_true, beq_iff_eq, beq_iff_eq, decide_eq_true_iff, Opt.mk.injEq, Lib.toList_data, Lib.toList_data]
  refine and_congr Iff.rfl ⟨fun h => ?_, fun h => by rw [h]⟩
  cases d1; cases d2; simp at h; simp [h]

theorem take_eq_next (l m : List Opt) (k : Nat) (h1 : k < l.length) (h2 : k < m.length) (h : l.take k = m.take k) (he : l.getD k noOpt = m.getD k noOpt) : l.take (k + 1) = m.take (k + 1) := by
  rw [getD_take l k h1, getD_take m k h2, h, he]

theorem ne_at (l m : List Opt) (k : Nat) (h : ¬ l.getD k noOpt = m.getD k noOpt) : ¬ l = m := fun e => h (by rw [e])

def sameB (l m : List Opt) : Bool := decide (l = m)
theorem sameB_refl (l : List Opt) : sameB l l = true := by simp [sameB]

set_option maxHeartbeats 1000000 in
theorem same_any (a1 a2 : Option Addr) (c1 c2 : Nat) (l m : List Opt) (w : World) (h1 : OptRow w a1 l) (h2 : OptRow w a2 m) (hl : l.length ≤ maxLen) (_hm : m.length ≤ maxLen) :
    Calls Tryd.prog 12 #[.slice a1 l.length c1, .slice a2 m.length c2] w fun e w' => e = .returned (.bool (sameB l m)) ∧ Below w.heap.size w w' := by
  unfold maxLen at hl
  have Hrow1 := Lib.hid h1
  have Hrow2 := Lib.hid h2
  clear h1 h2
  obtain ⟨r, hr⟩ : ∃ r, sameB l m = r := ⟨_, rfl⟩
  have Hr := Lib.hid (show decide (l = m) = r from hr)
  rw [hr]
  clear hr
  by_cases hlen : l.length = m.length
  · have Hlen := Lib.hid hlen
    have hle : m.length ≤ l.length := by omega
    have hne : ((l.length : Int) != (m.length : Int)) = false := by simp; omega
    go_enter Tryd.func12, Tryd.ntmps12
    clear hlen
    go_wp2
    clear hne
    go_loopw [5] (fun i wr => ∃ k : Nat, k ≤ l.length ∧ i = .int .i64 k ∧ Hid (l.take k = m.take k) ∧ Below w.heap.size w wr) (fun i _ => l.length - (intOf i).toNat)
    case atStart => exact ⟨0, Nat.zero_le _, rfl, Lib.hid rfl, Below.refl _ _⟩
    case round =>
      obtain ⟨k, hk, rfl, Ha, hb⟩ := hrel
      by_cases hlt : k < l.length
      · have hlt2 : k < m.length := by have := Hlen.out; omega
        obtain ⟨b, off, rfl, hbl, c0, c1⟩ := Hrow1.out.then hb k hlt
        obtain ⟨b', off', rfl, hbl', d0, d1⟩ := Hrow2.out.then hb k hlt2
        have Hq := Lib.hid (take_eq_next l m k hlt hlt2 Ha.out)
        have Hn := Lib.hid (ne_at l m k)
        generalize l.getD k noOpt = o at *
        generalize m.getD k noOpt = o' at *
        obtain ⟨kd, d⟩ := o
        obtain ⟨kd', d'⟩ := o'
        simp only at c0 c1 d0 d1
        have q3 : (k : Int) < (l.length : Int) := by omega
        have q4 : (k : Int) < (m.length : Int) := by omega
        have hgd := guard_opt
        by_cases he : (⟨kd, d⟩ : Opt) = ⟨kd', d'⟩
        · have He := Lib.hid he
          have hneq : ∀ W, (binOp .neq 48 (.agg #[.int .i64 kd, .string d]) (.agg #[.int .i64 kd', .string d'])).run Tryd.prog W = .ok (.bool false) W := fun W => by rw [neq_opt, eq_opt, decide_eq_true he]; rfl
          clear he
          go_wp2
          go_quiet (fail)
          go_wp2
          go_roundw
          case rel => exact ⟨k + 1, by omega, by go_num, Lib.hid (Hq.out He.out), below_drewN hb _⟩
          case measure => simp [intOf]; omega
        · have He := Lib.hid he
          have hneq : ∀ W, (binOp .neq 48 (.agg #[.int .i64 kd, .string d]) (.agg #[.int .i64 kd', .string d'])).run Tryd.prog W = .ok (.bool true) W := fun W => by rw [neq_opt, eq_opt, decide_eq_false he]; rfl
          clear he
          go_wp2
          go_quiet (fail)
          go_wp2
          go_ret
          exact ⟨ret_bool (by rw [← Hr.out, decide_eq_false (Hn.out He.out)]), below_drewN hb _⟩
      · go_wp2
        go_ret
        exact ⟨ret_bool (by rw [← Hr.out, decide_eq_true]; have := Ha.out; rw [List.take_of_length_le (by omega), List.take_of_length_le (by have := Hlen.out; omega)] at this; exact this), hb⟩
  · have hne : ((l.length : Int) != (m.length : Int)) = true := by simp; omega
    have Hlen := Lib.hid hlen
    go_enter Tryd.func12, Tryd.ntmps12
    clear hlen
    go_wp2
    go_ret
    exact ⟨ret_bool (by rw [← Hr.out, decide_eq_false]; intro e; exact Hlen.out (by rw [e])), Below.refl _ _⟩
set_option maxHeartbeats 1000000 in
theorem equal_any (a1 a2 : Option Addr) (c1 c2 : Nat) (l m : List Opt) (w : World) (h1 : OptRow w a1 l) (h2 : OptRow w a2 m) (hl : l.length ≤ maxLen) (_hm : m.length ≤ maxLen) :
    Calls Tryd.prog 33 #[.slice a1 l.length c1, .slice a2 m.length c2] w fun e w' => e = .returned (.bool (sameB l m)) ∧ Below w.heap.size w w' := by
  unfold maxLen at hl
  have Hrow1 := Lib.hid h1
  have Hrow2 := Lib.hid h2
  clear h1 h2
  obtain ⟨r, hr⟩ : ∃ r, sameB l m = r := ⟨_, rfl⟩
  have Hr := Lib.hid (show decide (l = m) = r from hr)
  rw [hr]
  clear hr
  by_cases hlen : l.length = m.length
  · have Hlen := Lib.hid hlen
    have hle : m.length ≤ l.length := by omega
    have hne : ((l.length : Int) != (m.length : Int)) = false := by simp; omega
    go_enter Tryd.func33, Tryd.ntmps33
    clear hlen
    go_wp2
    clear hne
    go_loopw [13] (fun i wr => ∃ k : Nat, k ≤ l.length ∧ i = .int .i64 k ∧ Hid (l.take k = m.take k) ∧ Below w.heap.size w wr) (fun i _ => l.length - (intOf i).toNat)
    case atStart => exact ⟨0, Nat.zero_le _, rfl, Lib.hid rfl, Below.refl _ _⟩
    case round =>
      obtain ⟨k, hk, rfl, Ha, hb⟩ := hrel
      by_cases hlt : k < l.length
      · have hlt2 : k < m.length := by have := Hlen.out; omega
        obtain ⟨b, off, rfl, hbl, c0, c1⟩ := Hrow1.out.then hb k hlt
        obtain ⟨b', off', rfl, hbl', d0, d1⟩ := Hrow2.out.then hb k hlt2
        have Hq := Lib.hid (take_eq_next l m k hlt hlt2 Ha.out)
        have Hn := Lib.hid (ne_at l m k)
        generalize l.getD k noOpt = o at *
        generalize m.getD k noOpt = o' at *
        obtain ⟨kd, d⟩ := o
        obtain ⟨kd', d'⟩ := o'
        simp only at c0 c1 d0 d1
        have q3 : (k : Int) < (l.length : Int) := by omega
        have q4 : (k : Int) < (m.length : Int) := by omega
        have hgd := guard_opt
        by_cases he : (⟨kd, d⟩ : Opt) = ⟨kd', d'⟩
        · have He := Lib.hid he
          have hneq : ∀ W, (binOp .neq 48 (.agg #[.int .i64 kd, .string d]) (.agg #[.int .i64 kd', .string d'])).run Tryd.prog W = .ok (.bool false) W := fun W => by rw [neq_opt, eq_opt, decide_eq_true he]; rfl
          clear he
          go_wp2
          go_quiet (fail)
          go_wp2
          go_roundw
          case rel => exact ⟨k + 1, by omega, by go_num, Lib.hid (Hq.out He.out), below_drewN hb _⟩
          case measure => simp [intOf]; omega
        · have He := Lib.hid he
          have hneq : ∀ W, (binOp .neq 48 (.agg #[.int .i64 kd, .string d]) (.agg #[.int .i64 kd', .string d'])).run Tryd.prog W = .ok (.bool true) W := fun W => by rw [neq_opt, eq_opt, decide_eq_false he]; rfl
          clear he
          go_wp2
          go_quiet (fail)
          go_wp2
          go_ret
          exact ⟨ret_bool (by rw [← Hr.out, decide_eq_false (Hn.out He.out)]), below_drewN hb _⟩
      · go_wp2
        go_ret
        exact ⟨ret_bool (by rw [← Hr.out, decide_eq_true]; have := Ha.out; rw [List.take_of_length_le (by omega), List.take_of_length_le (by have := Hlen.out; omega)] at this; exact this), hb⟩
  · have hne : ((l.length : Int) != (m.length : Int)) = true := by simp; omega
    have Hlen := Lib.hid hlen
    go_enter Tryd.func33, Tryd.ntmps33
    clear hlen
    go_wp2
    go_ret
    exact ⟨ret_bool (by rw [← Hr.out, decide_eq_false]; intro e; exact Hlen.out (by rw [e])), Below.refl _ _⟩

set_option maxHeartbeats 400000 in
theorem optSame_any (a1 a2 : Option Addr) (c1 c2 : Nat) (l m : List Opt) (w : World) (h1 : OptRow w a1 l) (h2 : OptRow w a2 m) (hl : l.length ≤ maxLen) (_hm : m.length ≤ maxLen) :
    Calls Tryd.prog 15 #[.slice a1 l.length c1, .slice a2 m.length c2] w fun e w' => e = .returned (.bool (sameB l m)) ∧ Below w.heap.size w w' := by
  have H := Lib.hid (equal_any a1 a2 c1 c2 l m w h1 h2 hl _hm)
  clear h1 h2
  go_enter Tryd.func15, Tryd.ntmps15
  go_wp2_with fail
  refine H.out.mono ?_
  rintro e w1 ⟨rfl, hb⟩
  go_wp2
  go_ret
  exact ⟨rfl, hb⟩
#print axioms same_any
#print axioms optSame_any
end Go.Proofs.YtncnildpbccpaaaDoor
