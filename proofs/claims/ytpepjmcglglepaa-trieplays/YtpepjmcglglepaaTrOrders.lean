/- TrieOrders, walked whole. -/
import Derived.Test.YtpepjmcglglepaaTrPrefers
import Derived.Test.YtpepjmcglglepaaTrNil
import Derived.Test.YtpepjmcglglepaaTrSame
namespace Go.Proofs.Ytpepjmcglglepaa
open Go.RowKit
set_option maxRecDepth 100000
set_option linter.unusedVariables false
open R

theorem Try.info_route : (Try.prog.info? 31).map (fun i => (i.zero, i.size, i.bytes)) = some (some (.agg #[.int .u32 0, .int .i64 0, .int .i64 0]), 3, 24) := by kernel_rfl
/-- Routes in a row of the call's own. -/
abbrev RtOwn (base : Nat) (ao : Option Addr) (cap : Nat) (rs : List Rt) (w : World) : Prop := Own base 31 3 ao cap rs.length (routesX rs) w
theorem routesX_at (l : List Rt) (k j : Nat) (hk : k < l.length) (hj : j < 3) : (routesX l)[k * 3 + j]? = (l.getD k zR).v[j]? := by
  rw [routesX, flat_at _ 3 (fun _ => rfl) l k j hk hj, List.getElem?_eq_getElem hk, List.getD_eq_getElem?_getD, List.getElem?_eq_getElem hk]
  rfl
theorem RtOwn.at' {base : Nat} {ao : Option Addr} {cap : Nat} {rs : List Rt} {w : World} (h : RtOwn base ao cap rs w) (k : Nat) (hk : k < rs.length) : ∃ b, ao = some ⟨b, 0, none⟩ ∧ w.cell? ⟨b, k * 3, none⟩ = some (.int .u32 (rs.getD k zR).a) ∧ w.cell? ⟨b, k * 3 + 1, none⟩ = some (.int .i64 (rs.getD k zR).b) ∧ w.cell? ⟨b, k * 3 + 2, none⟩ = some (.int .i64 (rs.getD k zR).o) := by
  obtain ⟨g, cur, rfl, _, hg, hc⟩ := Own.at h (by omega)
  exact ⟨g, rfl, hc _ _ (by have := routesX_at rs k 0 hk (by omega); rw [Nat.add_zero] at this; exact this), hc _ _ (routesX_at rs k 1 hk (by omega)), hc _ _ (routesX_at rs k 2 hk (by omega))⟩
theorem append_route (base : Nat) (ao : Option Addr) (cap : Nat) (rs : List Rt) (r : Rt) (w : World) (h : RtOwn base ao cap rs w) (hl : rs.length ≤ 900000) (hb : base ≤ w.heap.size) :
    ∃ ao' cap' w', (Builtin.append_ #[26, 26] 26 #[.slice ao rs.length cap, .slice (some ⟨w.heap.size, 0, none⟩) 1 1]).run Try.prog (w.alloc (.cells #[.int .u32 r.a, .int .i64 r.b, .int .i64 r.o] 31)) = .ok (.slice ao' (rs.length + 1) cap') w' ∧ RtOwn base ao' cap' (rs ++ [r]) w' ∧
      Ch (fun q => Value.ownBlock (.slice ao rs.length cap) = some q) w w' ∧ (∀ q, Value.ownBlock (.slice ao' (rs.length + 1) cap') = some q → Value.ownBlock (.slice ao rs.length cap) = some q ∨ w.heap.size ≤ q) := by
  obtain ⟨ao', cap', w3, hrun, hown3, hg3, hne3⟩ := Own.app1 31 26 _ 3 24 Try.underlying26 Try.info_route rfl (by omega) base ao cap rs.length (routesX rs) (w.alloc (.cells #[.int .u32 r.a, .int .i64 r.b, .int .i64 r.o] 31)) (World.ownsRow.alloc h _) (Rt.v r) rfl (by intro u hu; revert hu; show u ∈ [_, _, _] → _; simp only [List.mem_cons, List.not_mem_nil, or_false]; rintro (rfl | rfl | rfl) <;> rfl) w.heap.size (cells_new w (Rt.v r) 31) 26 (by omega) (by simp; omega)
  refine ⟨ao', cap', w3, hrun, ?_, (Ch.alloc w _).trans (Ch.grown hg3 fun k hk => hk) fun _ hk _ => hk, fun q hq => ?_⟩
  · show Own base 31 3 ao' cap' (rs ++ [r]).length (routesX (rs ++ [r])) w3
    rw [show (rs ++ [r]).length = rs.length + 1 by simp, routesX_app]
    exact hown3
  · rcases hne3 q hq with e | e
    · exact .inl e
    · exact .inr (by simp at e; omega)

theorem RtRow.at2 {w : World} {ao : Option Addr} {l : List Rt} (h : RtRow w ao l) (k : Nat) (hk : k < l.length) : ∃ b off, ao = some ⟨b, off, none⟩ ∧ ∀ w', Below w.heap.size w w' → w'.cell? ⟨b, off + k * 3, none⟩ = some (.int .u32 (l.getD k zR).a) ∧ w'.cell? ⟨b, off + k * 3 + 1, none⟩ = some (.int .i64 (l.getD k zR).b) ∧ w'.cell? ⟨b, off + k * 3 + 2, none⟩ = some (.int .i64 (l.getD k zR).o) := by
  obtain ⟨b, off, h1, h2, h3⟩ := h (by omega)
  exact ⟨b, off, h1, fun w' hb => ⟨(hb.cell (p := ⟨b, _, none⟩) h2).trans (h3 k hk 0 _ rfl), (hb.cell (p := ⟨b, _, none⟩) h2).trans (h3 k hk 1 _ rfl), (hb.cell (p := ⟨b, _, none⟩) h2).trans (h3 k hk 2 _ rfl)⟩⟩
/-- A trie of the law's own, apart from what Y holds. -/
structure Own' (B : Nat) (X : Nat → Prop) (w : World) (g : Nat) (st : St) : Prop where
  at' : TrieAt X w g st
  lt : ∀ q, X q → q < w.heap.size
  low : ∀ q, X q → B ≤ q
theorem Own'.ch {B : Nat} {X Y : Nat → Prop} {w w' : World} {g : Nat} {st : St} (h : Own' B X w g st) (hc : Ch Y w w') (hXY : ∀ k, X k → ¬ Y k) : Own' B X w' g st :=
  ⟨h.at'.ch hc hXY, fun q hq => Nat.lt_of_lt_of_le (h.lt q hq) hc.size, h.low⟩

end Go.Proofs.Ytpepjmcglglepaa
