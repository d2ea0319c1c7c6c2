/- Nodes and routes held against one another, as values. -/
import Derived.Test.YtpepjmcglglepaaTrAdd2
import Derived.Laws.StructEq
namespace Go.Proofs.Ytpepjmcglglepaa
open Go.RowKit
set_option maxRecDepth 100000
set_option linter.unusedVariables false
set_option linter.unusedSimpArgs false
open R

theorem run_eq_kids (d : Nat) (x y : Nat) (w : World) : (Op.equalIn (d + 2) 57 (.agg #[.int .i64 x, .int .i64 y]) (.agg #[.int .i64 0, .int .i64 0])).run Try.prog w = .ok (decide (x = 0) && decide (y = 0)) w := by
  have hz : (sizeOf 3).run Try.prog w = .ok 1 w := by simp [go_sem]
  rw [Op.equalIn, Sem.run_bind, run_underlying Try.underlying57]
  simp only [Result.andThen_ok]
  rw [Sem.run_bind, hz]
  simp only [Result.andThen_ok]
  rw [Sem.run_bind, Std.Legacy.Range.forIn_eq_forIn_range', show List.range' ([:2] : Std.Legacy.Range).start ([:2] : Std.Legacy.Range).size ([:2] : Std.Legacy.Range).step = [0, 1] from rfl]
  have e1 : ((x : Int) == 0) = decide (x = 0) := by rw [Bool.eq_iff_iff]; simp
  have e2 : ((y : Int) == 0) = decide (y = 0) := by rw [Bool.eq_iff_iff]; simp
  by_cases hx : x = 0
  · by_cases hy : y = 0
    · simp [go_sem, part, hx, hy]
    · simp [go_sem, part, hx, hy]
  · simp [go_sem, part, hx]
theorem run_eq_route (d : Nat) (a b o : Int) (w : World) : (Op.equalIn (d + 3) 31 (.agg #[.int .u32 a, .int .i64 b, .int .i64 o]) (.agg #[.int .u32 0, .int .i64 0, .int .i64 0])).run Try.prog w = .ok ((decide (a = 0) && decide (b = 0)) && decide (o = 0)) w := by
  have hq : Try.prog.stoodInHeld 31 = false := by kernel_rfl
  have hq2 : Try.prog.stoodInHeld 29 = false := by kernel_rfl
  rw [Op.equalIn, Sem.run_bind, run_underlying Try.underlying31]
  simp only [Result.andThen_ok]
  by_cases h1 : a = 0
  · by_cases h2 : b = 0
    · by_cases h3 : o = 0
      · simp [go_sem, hq, hq2, h1, h2, h3]
      · simp [go_sem, hq, hq2, h1, h2, h3]
    · simp [go_sem, hq, hq2, h1, h2]
  · simp [go_sem, hq, hq2, h1]
theorem ext_kids (u0 u1 u2 u3 u4 u5 : Value) : (#[u0, u1, u2, u3, u4, u5] : Array Value).extract 0 2 = #[u0, u1] := by simp
theorem ext_rt (u0 u1 u2 u3 u4 u5 : Value) : (#[u0, u1, u2, u3, u4, u5] : Array Value).extract 3 6 = #[u3, u4, u5] := by simp
def R.isZ (N : Nd) : Bool := (decide (N.c0 = 0) && decide (N.c1 = 0)) && (!N.has) && ((decide ((N.r.a : Int) = 0) && decide (N.r.b = 0)) && decide (N.r.o = 0))
theorem R.isZ_iff (N : Nd) : R.isZ N = true ↔ N = zN := by
  obtain ⟨c0, c1, q, a, b, o⟩ := N
  simp [R.isZ, zN, zR]
  constructor
  · rintro ⟨⟨⟨h1, h2⟩, h3⟩, ⟨h4, h5⟩, h6⟩
    exact ⟨h1, h2, h3, h4, h5, h6⟩
  · rintro ⟨h1, h2, h3, h4, h5, h6⟩
    exact ⟨⟨⟨h1, h2⟩, h3⟩, ⟨h4, h5⟩, h6⟩
theorem run_eq_node (N : Nd) (w : World) : (binOp .eql 59 (.agg #[.int .i64 N.c0, .int .i64 N.c1, .bool N.has, .int .u32 N.r.a, .int .i64 N.r.b, .int .i64 N.r.o]) (.agg #[.int .i64 0, .int .i64 0, .bool false, .int .u32 0, .int .i64 0, .int .i64 0])).run Try.prog w = .ok (.bool (R.isZ N)) w := by
  have hk := run_eq_kids 9997 N.c0 N.c1 w
  have hr := run_eq_route 9996 (N.r.a : Int) N.r.b N.r.o w
  have hq : Try.prog.stoodInHeld 59 = false := by kernel_rfl
  rw [show 9997 + 2 = 9999 from rfl] at hk
  rw [show 9996 + 3 = 9999 from rfl] at hr
  rw [run_eql_struct]
  have key : (Op.equalIn (9999 + 1) 59 (.agg #[.int .i64 N.c0, .int .i64 N.c1, .bool N.has, .int .u32 N.r.a, .int .i64 N.r.b, .int .i64 N.r.o]) (.agg #[.int .i64 0, .int .i64 0, .bool false, .int .u32 0, .int .i64 0, .int .i64 0])).run Try.prog w = .ok (R.isZ N) w := by
    rw [Op.equalIn, Sem.run_bind, run_underlying Try.underlying59]
    simp only [Result.andThen_ok]
    unfold R.isZ
    generalize (decide (N.c0 = 0) && decide (N.c1 = 0)) = p at *
    clear hr
    cases p
    · simp [go_sem, hq, hk]
    · cases N.has
      · by_cases h1 : N.r.a = 0
        · by_cases h2 : N.r.b = 0
          · by_cases h3 : N.r.o = 0
            · simp [go_sem, hq, hk, h1, h2, h3]
            · simp [go_sem, hq, hk, h1, h2, h3]
          · simp [go_sem, hq, hk, h1, h2]
        · simp [go_sem, hq, hk, h1]
      · simp [go_sem, hq, hk]
  rw [show (10000 : Nat) = 9999 + 1 from rfl, key]
  rfl
#print axioms run_eq_node
end Go.Proofs.Ytpepjmcglglepaa
