/- The walk of the document's own options of bytes. -/
import Derived.Test.YtncnildpbccpaaaGreatDoorKb
import Derived.Test.YtncnildpbccpaaaGreatDoorKg
import Derived.Test.YtncnildpbccpaaaGreatDoorKa
import Derived.Laws.StructEq
import Derived.Deep.QuietTactic
import Derived.BigQuiet
set_option maxRecDepth 100000
namespace Go.Proofs.YtncnildpbccpaaaGreatDoor
open Go.RowKit

theorem drop_at (S : ByteArray) (a : Nat) (h : a < S.size) : S.data.toList.drop a = S[a] :: S.data.toList.drop (a + 1) :=
  List.drop_eq_getElem_cons (by simpa using h)

theorem all_at (S : ByteArray) (a : Nat) (h : a < S.size) : (S.data.toList.drop a).all (· == 0) = (S[a] == 0 && (S.data.toList.drop (a + 1)).all (· == 0)) := by rw [drop_at S a h]; rfl

theorem byte_ne {c : UInt8} {n : Nat} (hn : n < 256) (h : ¬ c.toNat = n) : c ≠ UInt8.ofNat n := fun e => h (by rw [e]; exact O.byte_eq n hn)

theorem byte_is {c : UInt8} {n : Nat} (hn : n < 256) (h : c.toNat = n) : c = UInt8.ofNat n := UInt8.toNat_inj.1 (by rw [h, O.byte_eq n hn])

theorem extract_ba (S : ByteArray) (a b : Nat) : S.extract a b = ba ((S.data.toList.drop a).take (b - a)) := by
  rw [ba_of (S.extract a b), ByteArray.data_extract, Array.toList_extract, List.extract_eq_take_drop]

end Go.Proofs.YtncnildpbccpaaaGreatDoor

namespace Go.Proofs.YtncnildpbccpaaaGreatDoor
open Go.RowKit

/-- The example's options. -/
def exOpts : List Opt := [⟨1, ⟨#[]⟩⟩, ⟨134, ⟨#[55, 55]⟩⟩]

theorem exOpts_enc : O.encoded exOpts = (⟨#[1, 134, 4, 55, 55, 0, 0, 0]⟩, 0) := by decide +kernel

theorem cell_new (w : World) (cs : Array Value) (t : TypeId) (i : Nat) (v : Value) (h : cs[i]? = some v) : (w.alloc (.cells cs t)).cell? ⟨w.heap.size, i, none⟩ = some v := by
  have e : (w.alloc (.cells cs t)).heap[w.heap.size]? = some (.cells cs t) := heap_alloc_new w _
  simp only [World.cell?, e]
  exact h

theorem exOpts_row (w : World) : OptRow (w.alloc (.cells #[.int .i64 1, .string ⟨#[]⟩, .int .i64 134, .string ⟨#[55, 55]⟩] 56)) (some ⟨w.heap.size, 0, none⟩) exOpts := by
  refine .inr ⟨w.heap.size, 0, rfl, by simp, fun i hi => ?_⟩
  match i, hi with
  | 0, _ => exact ⟨cell_new w _ _ 0 _ rfl, cell_new w _ _ 1 _ rfl⟩
  | 1, _ => exact ⟨cell_new w _ _ 2 _ rfl, cell_new w _ _ 3 _ rfl⟩

theorem exOpts_small : ∀ o ∈ exOpts, o.data.size ≤ 100 := by
  intro o ho
  simp [exOpts] at ho
  rcases ho with rfl | rfl <;> decide

end Go.Proofs.YtncnildpbccpaaaGreatDoor

namespace Go.Proofs.YtncnildpbccpaaaGreatDoor
open Go.RowKit

deriving instance DecidableEq for Opt

theorem below_drewN {base : Nat} {w w' : World} (h : Below base w w') (n : Nat) : Below base w (w'.drewN n) := by
  induction n with
  | zero => exact h
  | succ k ih => exact ih.drew

/-- The model's '!=' at two options. -/
theorem neq_opt (k1 k2 : Int) (d1 d2 : ByteArray) (w : World) : (binOp .neq 56 (.agg #[.int .i64 k1, .string d1]) (.agg #[.int .i64 k2, .string d2])).run Tryz.prog w = .ok (.bool (!(k1 == k2 && d1.toList == d2.toList))) w := by
  have u3 := Tryz.underlying3
  have a3 := Tryz.isAgg3
  have z3 := Tryz.sizeOf3
  have u9 := Tryz.underlying9
  have a9 := Tryz.isAgg9
  have z9 := Tryz.sizeOf9
  have hS : Tryz.prog.underlying 56 = some (.struct (Tryz.prog.fieldsOf 56)) := by kernel_rfl
  have hp : Tryz.prog.stoodInHeld 56 = false := by kernel_rfl
  rw [run_neq_struct, show (10000 : Nat) = 9999 + 1 from rfl, run_equalIn_agg w 9999 56 _ _ hS hp]
  simp only [Program.fieldsOf, Tryz.underlying56]
  go_simp
  by_cases h1 : k1 = k2
  · by_cases h2 : d1.toList = d2.toList <;> simp [h1, h2]
  · simp [h1]

theorem guard_opt : Tryz.prog.eqGuardType Tryz.prog.depth 56 = false := by kernel_rfl

theorem opt_ext {a b : Opt} : a = b ↔ (a.kind = b.kind ∧ a.data = b.data) := by
  cases a; cases b; simp

theorem eq_opt (k1 k2 : Int) (d1 d2 : ByteArray) : (k1 == k2 && d1.toList == d2.toList) = decide ((⟨k1, d1⟩ : Opt) = ⟨k2, d2⟩) := by
  rw [Bool.eq_iff_iff, Bool.and_eq_true, beq_iff_eq, beq_iff_eq, decide_eq_true_iff, Opt.mk.injEq, Lib.toList_data, Lib.toList_data]
  refine and_congr Iff.rfl ⟨fun h => ?_, fun h => by rw [h]⟩
  cases d1; cases d2; simp at h; simp [h]

theorem take_eq_next (l m : List Opt) (k : Nat) (h1 : k < l.length) (h2 : k < m.length) (h : l.take k = m.take k) (he : l.getD k noOpt = m.getD k noOpt) : l.take (k + 1) = m.take (k + 1) := by
  rw [getD_take l k h1, getD_take m k h2, h, he]

theorem ne_at (l m : List Opt) (k : Nat) (h : ¬ l.getD k noOpt = m.getD k noOpt) : ¬ l = m := fun e => h (by rw [e])

def sameB (l m : List Opt) : Bool := decide (l = m)
theorem sameB_refl (l : List Opt) : sameB l l = true := by simp [sameB]

end Go.Proofs.YtncnildpbccpaaaGreatDoor

namespace Go.Proofs.YtncnildpbccpaaaGreatDoor
open Go.RowKit

namespace O
theorem par_err (N : Nat) : ∀ (s : List UInt8), s.length ≤ N → ∀ n, par s = .error n → n = 2 ∨ n = 3 := by
  induction N with
  | zero =>
    intro s hs n h
    obtain rfl : s = [] := List.length_eq_zero_iff.1 (by omega)
    rw [par_nil] at h; cases h
  | succ N ih =>
    intro s hs n h
    match s, hs, h with
    | [], _, h => rw [par_nil] at h; cases h
    | k :: t, hs, h =>
      have hs' : t.length ≤ N := by simpa using hs
      by_cases h0 : k = 0
      · subst h0
        rw [par_zero] at h
        split at h
        · cases h
        · cases h; exact .inr rfl
      · by_cases h1 : k = 1
        · subst h1
          rw [par_one] at h
          cases hp : par t with
          | ok l => rw [hp] at h; cases h
          | error e =>
            rw [hp] at h
            cases h
            exact ih t hs' _ hp
        · match t, hs', h with
          | [], _, h => rw [par_end k h0 h1] at h; cases h; exact .inl rfl
          | m :: u, hs', h =>
            have hs2 : u.length + 1 ≤ N := by simpa using hs'
            rw [par_long k m u h0 h1] at h
            split at h
            · cases h; exact .inl rfl
            · split at h
              · cases h; exact .inr rfl
              · cases hp : par (u.drop (m.toNat - 2)) with
                | ok l => rw [hp] at h; cases h
                | error e =>
                  rw [hp] at h
                  cases h
                  exact ih _ (by rw [List.length_drop]; omega) _ hp

theorem parse_err (s : List UInt8) (n : Nat) (h : parse s = .error n) : 2 ≤ n ∧ n ≤ 5 := by
  unfold parse at h
  split at h
  · cases h; omega
  · split at h
    · cases h; omega
    · rcases par_err s.length s (Nat.le_refl _) n h with h | h <;> omega

theorem par_len (N : Nat) : ∀ (s : List UInt8), s.length ≤ N → ∀ l, par s = .ok l → l.length ≤ s.length := by
  induction N with
  | zero =>
    intro s hs l h
    obtain rfl : s = [] := List.length_eq_zero_iff.1 (by omega)
    rw [par_nil] at h; cases h; simp
  | succ N ih =>
    intro s hs l h
    match s, hs, h with
    | [], _, h => rw [par_nil] at h; cases h; simp
    | k :: t, hs, h =>
      have hs' : t.length ≤ N := by simpa using hs
      by_cases h0 : k = 0
      · subst h0
        rw [par_zero] at h
        split at h
        · cases h; simp
        · cases h
      · by_cases h1 : k = 1
        · subst h1
          rw [par_one] at h
          cases hp : par t with
          | ok m =>
            rw [hp] at h
            cases h
            have := ih t hs' _ hp
            simp; omega
          | error e => rw [hp] at h; cases h
        · match t, hs', h with
          | [], _, h => rw [par_end k h0 h1] at h; cases h
          | m :: u, hs', h =>
            have hs2 : u.length + 1 ≤ N := by simpa using hs'
            rw [par_long k m u h0 h1] at h
            split at h
            · cases h
            · split at h
              · cases h
              · cases hp : par (u.drop (m.toNat - 2)) with
                | ok x =>
                  rw [hp] at h
                  cases h
                  have := ih _ (by rw [List.length_drop]; omega) _ hp
                  rw [List.length_drop] at this
                  simp; omega
                | error e => rw [hp] at h; cases h

theorem parse_len (s : List UInt8) (l : List Opt) (h : parse s = .ok l) : l.length ≤ 40 := by
  unfold parse at h
  split at h
  · cases h
  · split at h
    · cases h
    · have := par_len s.length s (Nat.le_refl _) l h; omega
end O

end Go.Proofs.YtncnildpbccpaaaGreatDoor

