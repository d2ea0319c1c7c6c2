/- A trie's memory, what may change in it; the walks of what is small. -/
import Derived.Test.YtpepjmcglglepaaTrMem
import Derived.Deep.QuietTactic
import Derived.BigQuiet
namespace Go.Proofs.Ytpepjmcglglepaa
open Go.RowKit
set_option maxRecDepth 100000
set_option linter.unusedVariables false
open R

/-- Of what was there only blocks of X may have changed. -/
structure Ch (X : Nat → Prop) (w w' : World) : Prop where
  os : w'.os = w.os
  tape : w'.tape = w.tape
  output : w'.output = w.output
  size : w.heap.size ≤ w'.heap.size
  block : ∀ k, k < w.heap.size → ¬ X k → w'.heap[k]? = w.heap[k]?
section
variable {X Y : Nat → Prop} {w w' w2 : World}
theorem Ch.refl (X : Nat → Prop) (w : World) : Ch X w w := ⟨rfl, rfl, rfl, Nat.le_refl _, fun _ _ _ => rfl⟩
theorem Ch.trans (h : Ch X w w') (h' : Ch Y w' w2) (hY : ∀ k, Y k → k < w.heap.size → X k) : Ch X w w2 :=
  ⟨h'.os.trans h.os, h'.tape.trans h.tape, h'.output.trans h.output, Nat.le_trans h.size h'.size, fun k hk hn => (h'.block k (Nat.lt_of_lt_of_le hk h.size) (fun hy => hn (hY k hy hk))).trans (h.block k hk hn)⟩
theorem Ch.mono (h : Ch X w w') (hY : ∀ k, X k → Y k) : Ch Y w w' := ⟨h.os, h.tape, h.output, h.size, fun k hk hn => h.block k hk fun hx => hn (hY k hx)⟩
theorem Ch.ofBelow (h : Below w.heap.size w w') (X : Nat → Prop) : Ch X w w' := ⟨h.os, h.tape, h.output, h.size, fun k hk _ => h.block k hk⟩
theorem Ch.below (h : Ch X w w') {B : Nat} (hX : ∀ k, X k → B ≤ k) (hB : B ≤ w.heap.size) : Below B w w' := ⟨h.os, h.tape, h.output, h.size, fun k hk => h.block k (Nat.lt_of_lt_of_le hk hB) fun hx => by have := hX k hx; omega⟩
theorem Ch.own {base : Nat} {e : TypeId} {size : Nat} {ao : Option Addr} {cap n : Nat} {xs : List Value} (hc : Ch X w w') (h : Own base e size ao cap n xs w) (hX : ∀ g, Value.ownBlock (.slice ao n cap) = some g → ¬ X g) : Own base e size ao cap n xs w' := by
  rcases h with ⟨h1, ⟨h2, h3⟩ | ⟨g, cap', cur, hv, hbg, hg, rest⟩⟩
  · exact ⟨h1, .inl ⟨h2, h3⟩⟩
  · refine ⟨h1, .inr ⟨g, cap', cur, hv, hbg, ?_, rest⟩⟩
    rw [hc.block g (heap_lt hg) (hX g (by rw [hv]; rfl))]
    exact hg
theorem Ch.cell (hc : Ch X w w') {b o : Nat} {v : Value} (h : w.cell? ⟨b, o, none⟩ = some v) (hX : ¬ X b) : w'.cell? ⟨b, o, none⟩ = some v :=
  (World.cell?_of_block (hc.block b (World.block_lt_of_cell? w _ h) hX)).trans h
end

/-- A trie's tree in memory, at block t. -/
def TreeAt (X : Nat → Prop) (w : World) (t : Nat) (st : St) : Prop := ∃ an cn af cf,
  w.heap[t]? = some (.cells #[.slice an st.nodes.length cn, .slice af st.free.length cf, .int .i64 st.count] 53 (0, 0)) ∧
  Own 0 59 6 an cn st.nodes.length (nodesX st.nodes) w ∧ Own 0 3 1 af cf st.free.length (natsX st.free) w ∧
  X t ∧ (∀ k, Value.ownBlock (.slice an st.nodes.length cn) = some k → X k) ∧ (∀ k, Value.ownBlock (.slice af st.free.length cf) = some k → X k)
def TrieAt (X : Nat → Prop) (w : World) (g : Nat) (st : St) : Prop := ∃ t, w.heap[g]? = some (.cells #[.pointer (some ⟨t, 0, none⟩)] 55 (0, 0)) ∧ X g ∧ TreeAt (fun k => X k ∧ k ≠ g) w t st
section
variable {X Y : Nat → Prop} {w w' : World} {t g : Nat} {st : St}
theorem TreeAt.ch (h : TreeAt X w t st) (hc : Ch Y w w') (hXY : ∀ k, X k → ¬ Y k) : TreeAt X w' t st := by
  obtain ⟨an, cn, af, cf, h1, h2, h3, h4, h5, h6⟩ := h
  exact ⟨an, cn, af, cf, (hc.block t (heap_lt h1) (hXY t h4)).trans h1, hc.own h2 fun g hg => hXY g (h5 g hg), hc.own h3 fun g hg => hXY g (h6 g hg), h4, h5, h6⟩
theorem TrieAt.ch (h : TrieAt X w g st) (hc : Ch Y w w') (hXY : ∀ k, X k → ¬ Y k) : TrieAt X w' g st := by
  obtain ⟨t, h1, h2, h3⟩ := h
  exact ⟨t, (hc.block g (heap_lt h1) (hXY g h2)).trans h1, h2, h3.ch hc fun k hk => hXY k hk.1⟩
theorem TreeAt.below (h : TreeAt X w t st) (hb : Below w.heap.size w w') : TreeAt X w' t st := h.ch (Ch.ofBelow hb fun _ => False) fun _ _ => id
theorem TrieAt.below (h : TrieAt X w g st) (hb : Below w.heap.size w w') : TrieAt X w' g st := h.ch (Ch.ofBelow hb fun _ => False) fun _ _ => id
theorem TreeAt.mono (h : TreeAt X w t st) (hXY : ∀ k, X k → Y k) : TreeAt Y w t st := by
  obtain ⟨an, cn, af, cf, h1, h2, h3, h4, h5, h6⟩ := h
  exact ⟨an, cn, af, cf, h1, h2, h3, hXY _ h4, fun k hk => hXY _ (h5 k hk), fun k hk => hXY _ (h6 k hk)⟩
/-- A tree to be read. -/
structure TreeR (w : World) (t : Nat) (st : St) (bn cn : Nat) (af : Option Addr) (cf : Nat) : Prop where
  lt : t < w.heap.size
  ltn : bn < w.heap.size
  c0 : w.cell? ⟨t, 0, none⟩ = some (.slice (some ⟨bn, 0, none⟩) st.nodes.length cn)
  c1 : w.cell? ⟨t, 1, none⟩ = some (.slice af st.free.length cf)
  c2 : w.cell? ⟨t, 2, none⟩ = some (.int .i64 st.count)
  nd : ∀ i j v, i < st.nodes.length → (R.nd st.nodes i).v[j]? = some v → w.cell? ⟨bn, i * 6 + j, none⟩ = some v
theorem TreeAt.read (h : TreeAt X w t st) (h0 : 0 < st.nodes.length) : ∃ bn cn af cf, TreeR w t st bn cn af cf := by
  obtain ⟨an, cn, af, cf, h1, h2, h3, _⟩ := h
  obtain ⟨bn, cur, rfl, _, hbn, hc⟩ := h2.at h0
  refine ⟨bn, cn, af, cf, heap_lt h1, heap_lt hbn, (cell_of_row w t 0 _ _ (0, 0) h1).trans rfl, (cell_of_row w t 1 _ _ (0, 0) h1).trans rfl, (cell_of_row w t 2 _ _ (0, 0) h1).trans rfl, fun i j v hi hv => hc _ _ ?_⟩
  have hj : j < 6 := (List.getElem?_eq_some_iff.1 hv).1
  rw [nodesX_at _ _ _ hi hj]
  exact hv
theorem TreeR.below {bn cn cf : Nat} {af : Option Addr} (h : TreeR w t st bn cn af cf) (hb : Below w.heap.size w w') : TreeR w' t st bn cn af cf :=
  ⟨Nat.lt_of_lt_of_le h.lt hb.size, Nat.lt_of_lt_of_le h.ltn hb.size, (hb.cell (p := ⟨t, 0, none⟩) h.lt).trans h.c0, (hb.cell (p := ⟨t, 1, none⟩) h.lt).trans h.c1, (hb.cell (p := ⟨t, 2, none⟩) h.lt).trans h.c2, fun i j v hi hv => (hb.cell (p := ⟨bn, i * 6 + j, none⟩) h.ltn).trans (h.nd i j v hi hv)⟩
theorem Nd.v_ch (n : Nd) (b : Nat) (hb : b ≤ 1) : n.v[b]? = some (.int .i64 (n.ch b)) := by
  match b, hb with
  | 0, _ => rfl
  | 1, _ => rfl
end

theorem turn_any (a k : Nat) (w : World) (ha : a < 4294967296) (hk : k ≤ 31) :
    Calls Try.prog 23 #[.int .u32 a, .int .i64 k] w fun e w' => e = .returned (.int .i64 (A.bit a k)) ∧ w = w' := by
  have hl := A.bit_le a k
  have h1 := bit_int a k ha
  go_enter Try.func23, Try.ntmps23
  go_wp2
  go_ret
  exact ⟨rfl, rfl⟩
theorem turn_q (a k : Nat) (w : World) (ha : a < 4294967296) (hk : k ≤ 31) :
    Calls Try.prog 23 #[.int .u32 a, .int .i64 k] w fun e w' => e = .returned (.int .i64 (A.bit a k)) ∧ w' = w :=
  (turn_any a k w ha hk).mono fun _ _ hh => ⟨hh.1, hh.2.symm⟩
theorem made_any (g t : Nat) (w : World) (h : w.cell? ⟨g, 0, none⟩ = some (.pointer (some ⟨t, 0, none⟩))) :
    Calls Try.prog 19 #[.pointer (some ⟨g, 0, none⟩)] w fun e w' => e = .returned (.bool true) ∧ w = w' := by
  go_enter Try.func19, Try.ntmps19
  go_wp2
  go_ret
  exact ⟨rfl, rfl⟩
theorem made_nil (w : World) :
    Calls Try.prog 19 #[.pointer none] w fun e w' => e = .returned (.bool false) ∧ w = w' := by
  go_enter Try.func19, Try.ntmps19
  go_wp2
  go_ret
  exact ⟨rfl, rfl⟩
theorem TrieAt.ptr {X : Nat → Prop} {w : World} {g : Nat} {st : St} (h : TrieAt X w g st) : ∃ t, w.cell? ⟨g, 0, none⟩ = some (.pointer (some ⟨t, 0, none⟩)) ∧ X g ∧ TreeAt (fun k => X k ∧ k ≠ g) w t st := by
  obtain ⟨t, h1, h2, h3⟩ := h
  exact ⟨t, (cell_of_row w g 0 _ _ (0, 0) h1).trans rfl, h2, h3⟩
theorem Len_any (X : Nat → Prop) (g : Nat) (st : St) (w : World) (h : TrieAt X w g st) (h0 : 0 < st.nodes.length) :
    Calls Try.prog 15 #[.pointer (some ⟨g, 0, none⟩)] w fun e w' => e = .returned (.int .i64 st.count) ∧ w = w' := by
  obtain ⟨t, k0, _, ht⟩ := h.ptr
  obtain ⟨bn, cn, af, cf, hr⟩ := ht.read h0
  have k1 := hr.c2
  clear hr ht h
  go_enter Try.func15, Try.ntmps15
  go_wp2_with fail
  refine (made_any g t w k0).mono ?_
  rintro e w1 ⟨rfl, rfl⟩
  go_wp2
  go_ret
  exact ⟨rfl, rfl⟩
theorem Len_nil (w : World) : Calls Try.prog 15 #[.pointer none] w fun e w' => e = .returned (.int .i64 0) ∧ w = w' := by
  go_enter Try.func15, Try.ntmps15
  go_wp2_with fail
  refine (made_nil w).mono ?_
  rintro e w1 ⟨rfl, rfl⟩
  go_wp2
  go_ret
  exact ⟨rfl, rfl⟩
theorem Nodes_nil (w : World) : Calls Try.prog 16 #[.pointer none] w fun e w' => e = .returned (.int .i64 0) ∧ w = w' := by
  go_enter Try.func16, Try.ntmps16
  go_wp2_with fail
  refine (made_nil w).mono ?_
  rintro e w1 ⟨rfl, rfl⟩
  go_wp2
  go_ret
  exact ⟨rfl, rfl⟩
theorem below_drewN {B : Nat} {a w : World} (h : Below B a w) (n : Nat) : Below B a (w.drewN n) := ⟨h.os, h.tape, h.output, h.size, h.block⟩
theorem Nodes_any (X : Nat → Prop) (g : Nat) (st : St) (n : Nat) (w : World) (h : TrieAt X w g st) (h0 : 0 < st.nodes.length) (hn : st.nodes.length = n + st.free.length) (hl : st.nodes.length ≤ 1000000) :
    Calls Try.prog 16 #[.pointer (some ⟨g, 0, none⟩)] w fun e w' => e = .returned (.int .i64 n) ∧ Below w.heap.size w w' := by
  obtain ⟨t, k0, _, ht⟩ := h.ptr
  obtain ⟨bn, cn, af, cf, hr⟩ := ht.read h0
  have k1 := hr.c0
  have k2 := hr.c1
  generalize st.nodes.length = N at *
  generalize st.free.length = F at *
  have HN := Lib.hid hn
  have HW : Hid (wrap64 ((N : Int) - (F : Int)) = (n : Int)) := Lib.hid (by rw [hn]; rw [show (((n + F : Nat) : Int) - (F : Int)) = n by omega]; exact IntWalk.wrap64_in _ (by omega))
  clear hr ht h hn
  go_enter Try.func16, Try.ntmps16
  go_wp2_with fail
  refine (made_any g t w k0).mono ?_
  rintro e w1 ⟨rfl, rfl⟩
  go_wp2
  go_quiet (fail)
  go_wp2
  go_ret
  exact ⟨ret_int HW.out, below_drewN (Below.refl _ _) _⟩
#print axioms Nodes_any
end Go.Proofs.Ytpepjmcglglepaa
