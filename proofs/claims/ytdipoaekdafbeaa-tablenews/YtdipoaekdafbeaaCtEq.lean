/- Two sets held against one another, as values. -/
import Derived.Test.YtdipoaekdafbeaaCtMem
import Derived.Laws.StructEq
namespace Go.Proofs.Ytdipoaekdafbeaa
open Go.RowKit
set_option maxRecDepth 100000

theorem run_part_set (f : Nat → Nat) (i : Nat) (w : World) (hi : i < 30) : (part 5 (C.bv f) i).run Try.prog w = .ok (.int .u8 (f i)) w := by
  have hg := C.bv_get f i hi
  simp [part, go_sem, hg]

theorem run_forIn_eq {P : Program} (F : Nat → (Option Bool × Unit) → Sem (ForInStep (Option Bool × Unit))) (e : Nat → Bool) (w : World) (hF : ∀ i, i < 30 → (F i (none, ())).run P w = .ok (if e i then .yield (none, ()) else .done (some false, ())) w) :
    ∀ (L : List Nat), (∀ i ∈ L, i < 30) → (forIn L (none, ()) F).run P w = .ok (if L.all e then (none, ()) else (some false, ())) w
  | [], _ => by simp
  | i :: L, h => by
    have h1 := hF i (h i List.mem_cons_self)
    have ih := run_forIn_eq F e w hF L (fun j hj => h j (List.mem_cons_of_mem _ hj))
    rw [List.forIn_cons, Sem.run_bind, h1]
    simp only [Result.andThen_ok]
    cases he : e i
    · simp [he]
    · simp only [he, if_true, List.all_cons, Bool.true_and]
      exact ih

theorem run_eq_in (d : Nat) (f g : Nat → Nat) (w : World) : (Op.equalIn (d + 2) 27 (.agg (C.bv f)) (.agg (C.bv g))).run Try.prog w = .ok ((List.range 30).all fun i => f i == g i) w := by
  have hz : (sizeOf 5).run Try.prog w = .ok 1 w := by simp [go_sem]
  rw [Op.equalIn, Sem.run_bind, run_underlying Try.underlying27]
  simp only [Result.andThen_ok]
  rw [Sem.run_bind, hz]
  simp only [Result.andThen_ok]
  rw [Sem.run_bind, Std.Legacy.Range.forIn_eq_forIn_range', show List.range' ([:30] : Std.Legacy.Range).start ([:30] : Std.Legacy.Range).size ([:30] : Std.Legacy.Range).step = List.range' 0 30 from rfl]
  rw [run_forIn_eq _ (fun i => f i == g i) w ?_ (List.range' 0 30) (by simp)]
  · simp only [Result.andThen_ok]
    rw [show List.range' 0 30 = List.range 30 from rfl]
    cases (List.range 30).all fun i => f i == g i <;> simp
  · intro i hi
    have h1 := run_part_set f i w hi
    have h2 := run_part_set g i w hi
    rw [Nat.mul_one]
    rw [Sem.run_bind, h1]
    simp only [Result.andThen_ok]
    rw [Sem.run_bind, h2]
    simp only [Result.andThen_ok]
    rw [Sem.run_bind, run_equalIn_int w d _ .u8 _ _ _ Try.underlying5]
    simp only [Result.andThen_ok]
    have e : ((f i : Int) == (g i : Int)) = (f i == g i) := by
      rw [Bool.eq_iff_iff]; simp; omega
    rw [e]
    cases f i == g i <;> simp

theorem all_eq (n m : Nat) (hn : n < 2 ^ 240) (hm : m < 2 ^ 240) : ((List.range 30).all fun i => C.byte n i == C.byte m i) = decide (n = m) := by
  rw [Bool.eq_iff_iff]
  simp only [decide_eq_true_eq, List.all_eq_true, List.mem_range, beq_iff_eq]
  exact ⟨fun h => (C.cv_eq hn hm).1 (C.bv_ext h), fun h i _ => by rw [h]⟩

/-- Two sets are the same value just where they are the same set. -/
theorem run_eql_set (n m : Nat) (w : World) (hn : n < 2 ^ 240) (hm : m < 2 ^ 240) : (binOp .eql 27 (.agg (C.cv n)) (.agg (C.cv m))).run Try.prog w = .ok (.bool (decide (n = m))) w := by
  rw [run_eql_struct, show (10000 : Nat) = 9998 + 2 from rfl]
  unfold C.cv
  rw [run_eq_in, all_eq n m hn hm]
  rfl
theorem run_neq_set (n m : Nat) (w : World) (hn : n < 2 ^ 240) (hm : m < 2 ^ 240) : (binOp .neq 27 (.agg (C.cv n)) (.agg (C.cv m))).run Try.prog w = .ok (.bool (!decide (n = m))) w := by
  rw [run_neq_struct, show (10000 : Nat) = 9998 + 2 from rfl]
  unfold C.cv
  rw [run_eq_in, all_eq n m hn hm]
  rfl
#print axioms run_eql_set
end Go.Proofs.Ytdipoaekdafbeaa
