/- A trie's walk that yields: what it owes a loop over it. -/
import Derived.RangeFuncNested
import Derived.RangeFuncKeeps
import Derived.RangeFuncBound
import Derived.RangeFuncCalls
import Derived.RangeFuncLeaves
import Derived.Shelf.Abstract
import Derived.Shelf.RegionOpen
import Derived.WalkKit
import Derived.OwnWalkIn
import Derived.TacticsInMore
import Derived.LoopNIn
import Derived.LoopIn
import Derived.Test.YtpepjmcglglepaaTrWalk
namespace Go.Proofs.Ytpepjmcglglepaa
open Go.RowKit Go.Shelf
set_option maxRecDepth 100000
set_option linter.unusedVariables false
set_option linter.unusedSimpArgs false
open R
attribute [local go_sem] Oper.semAt_some

theorem run_ix0 (x y : Value) (w : World) : Sem.run Try.prog (Instr.index 57 (.agg #[x, y]) (.int .i64 0)) w = .ok x w := by first | rfl | kernel_rfl
theorem run_ix1 (x y : Value) (w : World) : Sem.run Try.prog (Instr.index 57 (.agg #[x, y]) (.int .i64 1)) w = .ok y w := by first | rfl | kernel_rfl
theorem room_of_none {F : Fence} (hd : F.depth = none) (k : Nat) : F.room k := fun d h => by rw [hd] at h; cases h
theorem yield_any {F : Fence} (hd : F.depth = none) {m : Nat} (m' : Nat) {P : Program} {l : Nat} {args : Array Value} {W : World} {R : Ending → World → Prop} (h : YieldAt F m P l args W R) : YieldAt F m' P l args W R := by
  obtain ⟨fn, tmps, assign, body, hy, hR⟩ := h
  exact ⟨fn, tmps, assign, body, hy, hR.1, fun c cs _ => hR.2 c cs (room_of_none hd _)⟩

/-- What a round keeps: what lay below, and all copies of nodes. -/
def KeepN (n₀ : Nat) (W W' : World) : Prop := Below n₀ W W' ∧ ∀ (b : Nat) (cur : Array Value), W.heap[b]? = some (Obj.cells cur 59 (0, 0)) → W'.heap[b]? = some (Obj.cells cur 59 (0, 0))
theorem KeepN.trans {n₀ : Nat} {A B C : World} (h : KeepN n₀ A B) (k : KeepN n₀ B C) : KeepN n₀ A C := ⟨h.1.trans k.1, fun b cur hb => k.2 b cur (h.2 b cur hb)⟩
/-- The nodes of a trie, to be read; they lie below. -/
def TLow (n₀ : Nat) (W : World) (t : Nat) (l : List Nd) : Prop := ∃ bn cn, t < n₀ ∧ bn < n₀ ∧ W.cell? ⟨t, 0, none⟩ = some (.slice (some ⟨bn, 0, none⟩) l.length cn) ∧ ∀ i, i < l.length → ∀ j v, (nd l i).v[j]? = some v → W.cell? ⟨bn, i * 6 + j, none⟩ = some v
theorem TLow.below {n₀ t : Nat} {l : List Nd} {A B : World} (h : TLow n₀ A t l) (hb : Below n₀ A B) : TLow n₀ B t l := by
  obtain ⟨bn, cn, h1, h2, h3, h4⟩ := h
  exact ⟨bn, cn, h1, h2, (hb.cell (p := ⟨t, 0, none⟩) h1).trans h3, fun i hi j v hv => (hb.cell (p := ⟨bn, _, none⟩) h2).trans (h4 i hi j v hv)⟩
/-- The children that are told of lie in the row, as deep as may be. -/
def R.okAt (l : List Nd) : Nat → Nat → Prop
  | 0, _ => False
  | f + 1, i => i < l.length ∧ ((nd l i).c0 ≠ 0 → R.okAt l f (nd l i).c0) ∧ ((nd l i).c1 ≠ 0 → R.okAt l f (nd l i).c1)
theorem R.ok_of {st : St} {R : List Rt} {pl : Nat → Nat → Option Nat} (h : Rep st R pl) (hf : Full pl R 0 0) : ∀ f j v i, j + f = 33 → pl j v = some i → okAt st.nodes f i := by
  intro f
  induction f with
  | zero =>
    intro j v i hj hp
    have := deep h hf hp
    omega
  | succ f ih =>
    intro j v i hj hp
    have k0 : ((nd st.nodes i).c0 = 0 ∧ pl (j + 1) (2 * v) = none) ∨ ((nd st.nodes i).c0 ≠ 0 ∧ pl (j + 1) (2 * v) = some (nd st.nodes i).c0) := h.kid (b := 0) (by omega) hp
    have k1 : ((nd st.nodes i).c1 = 0 ∧ pl (j + 1) (2 * v + 1) = none) ∨ ((nd st.nodes i).c1 ≠ 0 ∧ pl (j + 1) (2 * v + 1) = some (nd st.nodes i).c1) := h.kid (b := 1) (by omega) hp
    refine ⟨h.lt _ _ _ hp, fun h0 => ?_, fun h0 => ?_⟩
    · rcases k0 with ⟨k, _⟩ | ⟨_, k⟩
      · exact absurd k h0
      · exact ih (j + 1) (2 * v) _ (by omega) k
    · rcases k1 with ⟨k, _⟩ | ⟨_, k⟩
      · exact absurd k h0
      · exact ih (j + 1) (2 * v + 1) _ (by omega) k

set_option maxHeartbeats 4000000 in
theorem from_in (F : Fence) (hd : F.depth = none) (hfn : F.fn 31) (hro : F.round = none) (l n₀ N t : Nat) (nodes : List Nd) (J Jx : List Rt → World → Prop) (hJ : ∀ pre W W', J pre W → W.grownBy W' none → J pre W')
    (hY : ∀ m pre x W, J pre W → pre.length < N → YieldAt F m Try.prog l #[Rt.agg x] W fun e W' => (e = .returned (.bool true) ∧ J (pre ++ [x]) W' ∧ KeepN n₀ W W') ∨ (e = .returned (.bool false) ∧ Jx (pre ++ [x]) W')) :
    ∀ (f i : Nat), R.okAt nodes f i → ∀ (n : Nat) (pre : List Rt) (W : World), n₀ ≤ W.heap.size → TLow n₀ W t nodes → J pre W → pre.length + (R.walk nodes f i).length ≤ N →
      CallsIn F n Try.prog 31 #[.pointer (some ⟨t, 0, none⟩), .int .i64 i, .func (.yield l) #[] #[]] W fun e W' =>
        (e = .returned (.bool true) ∧ J (pre ++ R.walk nodes f i) W' ∧ KeepN n₀ W W') ∨ (e = .returned (.bool false) ∧ ∃ q, q <+: R.walk nodes f i ∧ Jx (pre ++ q) W') := by
  intro f
  induction f with
  | zero => intro i h; exact h.elim
  | succ f ih =>
    intro i hok n pre W hn₀ hT hj hN
    obtain ⟨hi, hk0, hk1⟩ := hok
    obtain ⟨bn, cn, ht, hbn, q0, hcs⟩ := hT
    have c0 : W.cell? ⟨bn, i * 6, none⟩ = some (.int .i64 (nd nodes i).c0) := hcs i hi 0 _ rfl
    have c1 : W.cell? ⟨bn, i * 6 + 1, none⟩ = some (.int .i64 (nd nodes i).c1) := hcs i hi 1 _ rfl
    have c2 : W.cell? ⟨bn, i * 6 + 2, none⟩ = some (.bool (nd nodes i).has) := hcs i hi 2 _ rfl
    have c3 : W.cell? ⟨bn, i * 6 + 3, none⟩ = some (.int .u32 (nd nodes i).r.a) := hcs i hi 3 _ rfl
    have c4 : W.cell? ⟨bn, i * 6 + 4, none⟩ = some (.int .i64 (nd nodes i).r.b) := hcs i hi 4 _ rfl
    have c5 : W.cell? ⟨bn, i * 6 + 5, none⟩ = some (.int .i64 (nd nodes i).r.o) := hcs i hi 5 _ rfl
    have hdd : ∀ k : Nat, (F.depth.isSome = true → 1 ≤ k) := fun k h => by rw [hd] at h; cases h
    have hil : (i : Int) < (nodes.length : Int) := by omega
    refine callsIn_of_wp Try.func31 rfl hfn ?_ hro
    simp only [Try.ntmps31, List.size_toArray, List.length_cons, List.length_nil, Nat.reduceAdd, Nat.reduceSub, Array.replicate_succ, Array.replicate_zero, List.push_toArray, List.append_toArray, List.nil_append, List.cons_append]
    generalize hN0 : nd nodes i = N0 at *
    have hw : R.walk nodes (f + 1) i = (if N0.has = true then [N0.r] else []) ++ (if N0.c0 = 0 then [] else R.walk nodes f N0.c0) ++ (if N0.c1 = 0 then [] else R.walk nodes f N0.c1) := by rw [← hN0]; rfl
    clear hN0
    obtain ⟨k0, k1, hh, ra, rb, ro⟩ := N0
    dsimp only at hw hk0 hk1 c0 c1 c2 c3 c4 c5
    cases hh
    · rw [if_neg (by simp), List.nil_append] at hw
      have hgr : W.grownBy (W.alloc (.cells #[.int .i64 k0, .int .i64 k1, .bool false, .int .u32 ra, .int .i64 rb, .int .i64 ro] 59)) none := World.grownBy_alloc W _ none
      have hj1 := hJ _ _ _ hj hgr
      have hb1 : Below n₀ W (W.alloc (.cells #[.int .i64 k0, .int .i64 k1, .bool false, .int .u32 ra, .int .i64 rb, .int .i64 ro] 59)) := (Below.refl n₀ W).alloc hn₀ _
      have hK1 : KeepN n₀ W (W.alloc (.cells #[.int .i64 k0, .int .i64 k1, .bool false, .int .u32 ra, .int .i64 rb, .int .i64 ro] 59)) := ⟨hb1, fun b cur hb => (Below.heap_alloc _ _ _ (heap_lt hb)).trans hb⟩
      have hT1 : TLow n₀ (W.alloc (.cells #[.int .i64 k0, .int .i64 k1, .bool false, .int .u32 ra, .int .i64 rb, .int .i64 ro] 59)) t nodes := TLow.below ⟨bn, cn, ht, hbn, q0, hcs⟩ hb1
      have hn1 : n₀ ≤ (W.alloc (.cells #[.int .i64 k0, .int .i64 k1, .bool false, .int .u32 ra, .int .i64 rb, .int .i64 ro] 59)).heap.size := Nat.le_trans hn₀ hgr.size
      gi_wp2_with fail
      refine ⟨fun _ h => (by cases h), ?_⟩
      gi_wp2_with fail
      clear c0 c1 c2 c3 c4 c5 q0 hcs hj hgr hb1
      generalize (W.alloc (.cells #[.int .i64 k0, .int .i64 k1, .bool false, .int .u32 ra, .int .i64 rb, .int .i64 ro] 59)) = W1 at *
      refine wpIn_loop_rounds 3 ?_
      rw [roundsIn_succ]
      by_cases h0 : k0 = 0
      · subst h0
        gi_wp2_with fail
        first | rw [run_ix0] | rw [run_ix1]
        gi_wp2_with fail
        try refine ⟨fun _ h => (by cases h), ?_⟩
        gi_wp2_with fail
        rw [roundsIn_succ]
        by_cases h1 : k1 = 0
        · subst h1
          gi_wp2_with fail
          first | rw [run_ix0] | rw [run_ix1]
          gi_wp2_with fail
          try refine ⟨fun _ h => (by cases h), ?_⟩
          gi_wp2_with fail
          rw [roundsIn_succ]
          gi_wp2_with fail
          go_ret
          exact .inl ⟨rfl, by simpa [hw] using hj1, hK1⟩
        · have h1' : (k1 : Int) ≠ 0 := by omega
          have hl1 : (pre).length + (R.walk nodes f k1).length ≤ N := by (rw [hw] at hN; simp [h1] at hN ⊢; omega)
          gi_wp2_with fail
          first | rw [run_ix0] | rw [run_ix1]
          gi_wp2_with ((try refine ⟨hdd _, ?_⟩); gi_at_call 31; refine (ih k1 (hk1 h1) (n - 1) (pre) W1 hn1 hT1 hj1 hl1).mono ?_; rintro e W9 (⟨rfl, hj9, hk9⟩ | ⟨rfl, q, hq, hx⟩))
          · gi_wp2_with fail
            rw [roundsIn_succ]
            gi_wp2_with fail
            go_ret
            exact .inl ⟨rfl, by simpa [hw, h1, List.append_assoc] using hj9, hK1.trans hk9⟩
          · go_ret
            obtain ⟨r, hr'⟩ := hq
            exact .inr ⟨rfl, [] ++ [] ++ q, ⟨r, by rw [hw, if_neg h1, ← hr']; simp [List.append_assoc]⟩, by simpa [List.append_assoc] using hx⟩
      · have h0' : (k0 : Int) ≠ 0 := by omega
        have hl0 : (pre).length + (R.walk nodes f k0).length ≤ N := by (rw [hw] at hN; simp [h0] at hN ⊢; omega)
        gi_wp2_with fail
        first | rw [run_ix0] | rw [run_ix1]
        gi_wp2_with ((try refine ⟨hdd _, ?_⟩); gi_at_call 31; refine (ih k0 (hk0 h0) (n - 1) (pre) W1 hn1 hT1 hj1 hl0).mono ?_; rintro e W8 (⟨rfl, hj8, hk8⟩ | ⟨rfl, q, hq, hx⟩))
        · have hT8 := hT1.below hk8.1
          have hn8 : n₀ ≤ W8.heap.size := Nat.le_trans hn1 hk8.1.size
          have hkk := hK1.trans hk8
          clear hl0
          gi_wp2_with fail
          rw [roundsIn_succ]
          by_cases h1 : k1 = 0
          · subst h1
            gi_wp2_with fail
            first | rw [run_ix0] | rw [run_ix1]
            gi_wp2_with fail
            try refine ⟨fun _ h => (by cases h), ?_⟩
            gi_wp2_with fail
            rw [roundsIn_succ]
            gi_wp2_with fail
            go_ret
            exact .inl ⟨rfl, by simpa [hw, h0] using hj8, hkk⟩
          · have h1' : (k1 : Int) ≠ 0 := by omega
            have hl1 : (pre ++ R.walk nodes f k0).length + (R.walk nodes f k1).length ≤ N := by (rw [hw] at hN; simp [h1, h0] at hN ⊢; omega)
            gi_wp2_with fail
            first | rw [run_ix0] | rw [run_ix1]
            gi_wp2_with ((try refine ⟨hdd _, ?_⟩); gi_at_call 31; refine (ih k1 (hk1 h1) (n - 1) (pre ++ R.walk nodes f k0) W8 hn8 hT8 hj8 hl1).mono ?_; rintro e W9 (⟨rfl, hj9, hk9⟩ | ⟨rfl, q, hq, hx⟩))
            · gi_wp2_with fail
              rw [roundsIn_succ]
              gi_wp2_with fail
              go_ret
              exact .inl ⟨rfl, by simpa [hw, h1, h0, List.append_assoc] using hj9, hkk.trans hk9⟩
            · go_ret
              obtain ⟨r, hr'⟩ := hq
              exact .inr ⟨rfl, [] ++ R.walk nodes f k0 ++ q, ⟨r, by rw [hw, if_neg h1, ← hr']; simp [List.append_assoc, h0]⟩, by simpa [List.append_assoc] using hx⟩
        · go_ret
          obtain ⟨r, hr'⟩ := hq
          exact .inr ⟨rfl, [] ++ q, ⟨r ++ (if k1 = 0 then [] else R.walk nodes f k1), by rw [hw, if_neg h0, ← hr']; simp [List.append_assoc]⟩, by simpa [List.append_assoc] using hx⟩
    · rw [if_pos rfl] at hw
      have hgr : W.grownBy (W.alloc (.cells #[.int .i64 k0, .int .i64 k1, .bool true, .int .u32 ra, .int .i64 rb, .int .i64 ro] 59)) none := World.grownBy_alloc W _ none
      have hj1 := hJ _ _ _ hj hgr
      have hb1 : Below n₀ W (W.alloc (.cells #[.int .i64 k0, .int .i64 k1, .bool true, .int .u32 ra, .int .i64 rb, .int .i64 ro] 59)) := (Below.refl n₀ W).alloc hn₀ _
      have hK1 : KeepN n₀ W (W.alloc (.cells #[.int .i64 k0, .int .i64 k1, .bool true, .int .u32 ra, .int .i64 rb, .int .i64 ro] 59)) := ⟨hb1, fun b cur hb => (Below.heap_alloc _ _ _ (heap_lt hb)).trans hb⟩
      have hT1 : TLow n₀ (W.alloc (.cells #[.int .i64 k0, .int .i64 k1, .bool true, .int .u32 ra, .int .i64 rb, .int .i64 ro] 59)) t nodes := TLow.below ⟨bn, cn, ht, hbn, q0, hcs⟩ hb1
      have hn1 : n₀ ≤ (W.alloc (.cells #[.int .i64 k0, .int .i64 k1, .bool true, .int .u32 ra, .int .i64 rb, .int .i64 ro] 59)).heap.size := Nat.le_trans hn₀ hgr.size
      have hblk : NBlk (W.alloc (.cells #[.int .i64 k0, .int .i64 k1, .bool true, .int .u32 ra, .int .i64 rb, .int .i64 ro] 59)) W.heap.size ⟨k0, k1, true, ra, rb, ro⟩ := heap_alloc_new W _
      have hY2 := hY (n - 1) pre ⟨ra, rb, ro⟩ (W.alloc (.cells #[.int .i64 k0, .int .i64 k1, .bool true, .int .u32 ra, .int .i64 rb, .int .i64 ro] 59)) hj1 (by rw [hw] at hN; simp at hN; omega)
      unfold Rt.agg at hY2
      dsimp only at hY2
      obtain ⟨fn, tmps, assign, body, hy, hR0⟩ := hY2
      have hR := hR0.mono (R' := fun e W2 => (e = .returned (.bool true) ∧ J (pre ++ [R.Rt.mk ra rb ro]) W2 ∧ KeepN n₀ W W2 ∧ TLow n₀ W2 t nodes ∧ n₀ ≤ W2.heap.size ∧ W2.cell? ⟨W.heap.size, 0, none⟩ = some (.int .i64 k0) ∧ W2.cell? ⟨W.heap.size, 1, none⟩ = some (.int .i64 k1)) ∨ (e = .returned (.bool false) ∧ Jx (pre ++ [R.Rt.mk ra rb ro]) W2)) (fun e W2 h => h.elim (fun ⟨he, hj, hk⟩ => .inl ⟨he, hj, hK1.trans hk, hT1.below hk.1, Nat.le_trans hn1 hk.1.size, (NBlk.cells (hk.2 _ _ hblk)).1, (NBlk.cells (hk.2 _ _ hblk)).2.1⟩) .inr)
      clear hR0 hY hj1 hK1 hT1 hn1 hblk hb1 hgr hj
      gi_wp2_with ((try refine ⟨hdd _, ?_⟩); refine hR.mono ?_; clear hR; rintro e W2 (⟨rfl, hj2, hK2, hT2, hn2, d0, d1⟩ | ⟨rfl, hx2⟩))
      · clear c0 c1 c2 c3 c4 c5 q0 hcs d0 d1
        refine wpIn_loop_rounds 3 ?_
        rw [roundsIn_succ]
        by_cases h0 : k0 = 0
        · subst h0
          gi_wp2_with fail
          first | rw [run_ix0] | rw [run_ix1]
          gi_wp2_with fail
          try refine ⟨fun _ h => (by cases h), ?_⟩
          gi_wp2_with fail
          rw [roundsIn_succ]
          by_cases h1 : k1 = 0
          · subst h1
            gi_wp2_with fail
            first | rw [run_ix0] | rw [run_ix1]
            gi_wp2_with fail
            try refine ⟨fun _ h => (by cases h), ?_⟩
            gi_wp2_with fail
            rw [roundsIn_succ]
            gi_wp2_with fail
            go_ret
            exact .inl ⟨rfl, by simpa [hw] using hj2, hK2⟩
          · have h1' : (k1 : Int) ≠ 0 := by omega
            have hl1 : (pre ++ [R.Rt.mk ra rb ro]).length + (R.walk nodes f k1).length ≤ N := by (rw [hw] at hN; simp [h1] at hN ⊢; omega)
            gi_wp2_with fail
            first | rw [run_ix0] | rw [run_ix1]
            gi_wp2_with ((try refine ⟨hdd _, ?_⟩); gi_at_call 31; refine (ih k1 (hk1 h1) (n - 1) (pre ++ [R.Rt.mk ra rb ro]) W2 hn2 hT2 hj2 hl1).mono ?_; rintro e W9 (⟨rfl, hj9, hk9⟩ | ⟨rfl, q, hq, hx⟩))
            · gi_wp2_with fail
              rw [roundsIn_succ]
              gi_wp2_with fail
              go_ret
              exact .inl ⟨rfl, by simpa [hw, h1, List.append_assoc] using hj9, hK2.trans hk9⟩
            · go_ret
              obtain ⟨r, hr'⟩ := hq
              exact .inr ⟨rfl, [R.Rt.mk ra rb ro] ++ [] ++ q, ⟨r, by rw [hw, if_neg h1, ← hr']; simp [List.append_assoc]⟩, by simpa [List.append_assoc] using hx⟩
        · have h0' : (k0 : Int) ≠ 0 := by omega
          have hl0 : (pre ++ [R.Rt.mk ra rb ro]).length + (R.walk nodes f k0).length ≤ N := by (rw [hw] at hN; simp [h0] at hN ⊢; omega)
          gi_wp2_with fail
          first | rw [run_ix0] | rw [run_ix1]
          gi_wp2_with ((try refine ⟨hdd _, ?_⟩); gi_at_call 31; refine (ih k0 (hk0 h0) (n - 1) (pre ++ [R.Rt.mk ra rb ro]) W2 hn2 hT2 hj2 hl0).mono ?_; rintro e W8 (⟨rfl, hj8, hk8⟩ | ⟨rfl, q, hq, hx⟩))
          · have hT8 := hT2.below hk8.1
            have hn8 : n₀ ≤ W8.heap.size := Nat.le_trans hn2 hk8.1.size
            have hkk := hK2.trans hk8
            clear hl0
            gi_wp2_with fail
            rw [roundsIn_succ]
            by_cases h1 : k1 = 0
            · subst h1
              gi_wp2_with fail
              first | rw [run_ix0] | rw [run_ix1]
              gi_wp2_with fail
              try refine ⟨fun _ h => (by cases h), ?_⟩
              gi_wp2_with fail
              rw [roundsIn_succ]
              gi_wp2_with fail
              go_ret
              exact .inl ⟨rfl, by simpa [hw, h0] using hj8, hkk⟩
            · have h1' : (k1 : Int) ≠ 0 := by omega
              have hl1 : (pre ++ [R.Rt.mk ra rb ro] ++ R.walk nodes f k0).length + (R.walk nodes f k1).length ≤ N := by (rw [hw] at hN; simp [h1, h0] at hN ⊢; omega)
              gi_wp2_with fail
              first | rw [run_ix0] | rw [run_ix1]
              gi_wp2_with ((try refine ⟨hdd _, ?_⟩); gi_at_call 31; refine (ih k1 (hk1 h1) (n - 1) (pre ++ [R.Rt.mk ra rb ro] ++ R.walk nodes f k0) W8 hn8 hT8 hj8 hl1).mono ?_; rintro e W9 (⟨rfl, hj9, hk9⟩ | ⟨rfl, q, hq, hx⟩))
              · gi_wp2_with fail
                rw [roundsIn_succ]
                gi_wp2_with fail
                go_ret
                exact .inl ⟨rfl, by simpa [hw, h1, h0, List.append_assoc] using hj9, hkk.trans hk9⟩
              · go_ret
                obtain ⟨r, hr'⟩ := hq
                exact .inr ⟨rfl, [R.Rt.mk ra rb ro] ++ R.walk nodes f k0 ++ q, ⟨r, by rw [hw, if_neg h1, ← hr']; simp [List.append_assoc, h0]⟩, by simpa [List.append_assoc] using hx⟩
          · go_ret
            obtain ⟨r, hr'⟩ := hq
            exact .inr ⟨rfl, [R.Rt.mk ra rb ro] ++ q, ⟨r ++ (if k1 = 0 then [] else R.walk nodes f k1), by rw [hw, if_neg h0, ← hr']; simp [List.append_assoc]⟩, by simpa [List.append_assoc] using hx⟩
      · go_ret
        exact .inr ⟨rfl, [R.Rt.mk ra rb ro], ⟨_, by rw [hw, List.append_assoc]⟩, hx2⟩
end Go.Proofs.Ytpepjmcglglepaa
