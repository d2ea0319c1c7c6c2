/- Get and Drop of whatever prefix. -/
import Derived.Test.YtpepjmcglglepaaTrRWith
namespace Go.Proofs.Ytpepjmcglglepaa
open Go.RowKit
set_option maxRecDepth 100000
set_option linter.unusedVariables false
open R

set_option maxHeartbeats 2000000 in
theorem Get_bad (X : Nat → Prop) (g : Nat) (st : St) (a : Nat) (b : Int) (w : World) (h : TrieAt X w g st) (hr : A.right a b = false) (ha : a < 4294967296) :
    Calls Try.prog 14 #[.pointer (some ⟨g, 0, none⟩), .agg #[.int .u32 a, .int .i64 b]] w fun e w' => e = .returned (.tuple #[Rt.agg zR, .bool false]) ∧ Below w.heap.size w w' := by
  have hb0 : Below w.heap.size w ((w.alloc (.cells #[.int .u32 a, .int .i64 b] 29)).alloc (.cells #[.int .u32 0, .int .i64 0, .int .i64 0] 31)) := ((Below.refl _ w).alloc (Nat.le_refl _) _).alloc (by simp) _
  obtain ⟨t, k0, _, _⟩ := (h.below hb0).ptr
  have HB : Hid (RBlk ((w.alloc (.cells #[.int .u32 a, .int .i64 b] 29)).alloc (.cells #[.int .u32 0, .int .i64 0, .int .i64 0] 31)) (w.heap.size + 1) zR) := Lib.hid (by
    have := RBlk.new (w.alloc (.cells #[.int .u32 a, .int .i64 b] 29)) zR
    rwa [show (w.alloc (.cells #[.int .u32 a, .int .i64 b] 29)).heap.size = w.heap.size + 1 from by simp] at this)
  have Hr := Lib.hid hr
  clear h hr
  go_enter Try.func14, Try.ntmps14
  go_wp2_with fail
  refine (made_any g t _ k0).mono ?_
  rintro e w1 ⟨rfl, rfl⟩
  go_wp2_with fail
  refine (right_any a b _ ha).mono ?_
  rintro e w1 ⟨rfl, hb1⟩
  rw [Hr.out]
  have HB1 := Lib.hid (HB.out.below hb1)
  have hbw1 : Below w.heap.size w w1 := hb0.trans (hb1.mono hb0.size)
  clear hb1 hb0 k0 HB
  go_upto_region 2 with fail
  obtain ⟨c0, c1, c2⟩ := HB1.out.cells
  have f0 := HB1.out.free 0
  have f1 := HB1.out.free 1
  have f2 := HB1.out.free 2
  have hlt := heap_lt HB1.out
  go_wp2
  exact bodyPost_ret (v := .tuple #[Rt.agg zR, .bool false]) (by simp [results, Try.results14, go_sem, c0, c1, c2, Rt.agg, zR]) rfl ⟨rfl, ((hbw1.setCell (by show w.heap.size ≤ w.heap.size + 1; omega) _).setCell (by show w.heap.size ≤ w.heap.size + 1; omega) _).setCell (by show w.heap.size ≤ w.heap.size + 1; omega) _⟩

set_option maxHeartbeats 2000000 in
theorem Drop_bad (X : Nat → Prop) (g : Nat) (st : St) (a : Nat) (b : Int) (w : World) (h : TrieAt X w g st) (hr : A.right a b = false) (ha : a < 4294967296) :
    Calls Try.prog 10 #[.pointer (some ⟨g, 0, none⟩), .agg #[.int .u32 a, .int .i64 b]] w fun e w' => e = .returned (.int .i64 1) ∧ Below w.heap.size w w' := by
  have hb0 : Below w.heap.size w (w.alloc (.cells #[.int .u32 a, .int .i64 b] 29)) := (Below.refl _ w).alloc (Nat.le_refl _) _
  obtain ⟨t, k0, _, _⟩ := (h.below hb0).ptr
  have Hr := Lib.hid hr
  clear h hr
  go_enter Try.func10, Try.ntmps10
  go_wp2_with fail
  refine (made_any g t _ k0).mono ?_
  rintro e w1 ⟨rfl, rfl⟩
  go_wp2_with fail
  refine (right_any a b _ ha).mono ?_
  rintro e w1 ⟨rfl, hb1⟩
  rw [Hr.out]
  have hbw1 : Below w.heap.size w w1 := hb0.trans (hb1.mono hb0.size)
  clear hb1 hb0 k0
  go_wp2
  go_ret
  exact ⟨rfl, hbw1⟩

set_option maxHeartbeats 2000000 in
theorem Drop_none (X : Nat → Prop) (g : Nat) (st : St) (rs : List Rt) (a : Nat) (b : Int) (w : World) (h : TrieAt X w g st) (hI : Inv st rs) (hr : A.right a b = true) (ha : a < 4294967296) (hl : st.nodes.length ≤ 800000) (hno : ∀ s ∈ rs, ¬ (s.a = a ∧ s.b = b)) :
    Calls Try.prog 10 #[.pointer (some ⟨g, 0, none⟩), .agg #[.int .u32 a, .int .i64 b]] w fun e w' => e = .returned (.int .i64 6) ∧ Below w.heap.size w w' := by
  obtain ⟨pl, hR, _⟩ := hI
  have hb0 : Below w.heap.size w (w.alloc (.cells #[.int .u32 a, .int .i64 b] 29)) := (Below.refl _ w).alloc (Nat.le_refl _) _
  have HT := Lib.hid (h.below hb0)
  obtain ⟨t, k0, _, _⟩ := HT.out.ptr
  have HB : Hid ((w.alloc (.cells #[.int .u32 a, .int .i64 b] 29)).heap[w.heap.size]? = some (.cells #[.int .u32 a, .int .i64 b] 29 (0, 0))) := Lib.hid (heap_alloc_new w _)
  have Hr := Lib.hid hr
  have HR := Lib.hid hR
  have HNo := Lib.hid hno
  clear h hr hR hno
  go_enter Try.func10, Try.ntmps10
  go_wp2_with fail
  refine (made_any g t _ k0).mono ?_
  rintro e w1 ⟨rfl, rfl⟩
  go_wp2_with fail
  refine (right_any a b _ ha).mono ?_
  rintro e w1 ⟨rfl, hb1⟩
  rw [Hr.out]
  have HT1 := Lib.hid (HT.out.below hb1)
  have HB1 := Lib.hid ((hb1.block _ (heap_lt HB.out)).trans HB.out)
  have p0 : w1.cell? ⟨w.heap.size, 0, none⟩ = some (.int .u32 a) := (cell_of_row w1 _ 0 _ _ (0, 0) HB1.out).trans rfl
  have p1 : w1.cell? ⟨w.heap.size, 1, none⟩ = some (.int .i64 b) := (cell_of_row w1 _ 1 _ _ (0, 0) HB1.out).trans rfl
  have hbw1 : Below w.heap.size w w1 := hb0.trans (hb1.mono hb0.size)
  clear HT HB k0 hb1 hb0
  go_wp2_with fail
  refine (Get_any X g st rs pl a b w1 HT1.out HR.out Hr.out ha (by omega)).mono ?_
  rintro e w2 ⟨⟨ra, rb, ro⟩, ok, rfl, hget, hb2⟩
  have hok : ok = false := by
    cases ok
    · rfl
    · have := hget.yes rfl
      exact absurd this.2 (HNo.out _ this.1)
  subst hok
  have hbw2 : Below w.heap.size w w2 := hbw1.trans (hb2.mono hbw1.size)
  have hb3 : Below w2.heap.size w2 (w2.alloc (.cells #[.int .u32 ra, .int .i64 rb, .int .i64 ro] 31)) := (Below.refl _ _).alloc (Nat.le_refl _) _
  have hbw3 := hbw2.trans (hb3.mono hbw2.size)
  clear HT1 HB1 p0 p1 hb2 hget hbw1
  unfold Rt.agg
  dsimp only
  go_wp2
  go_ret
  exact ⟨rfl, by first | exact hbw2 | exact hbw3⟩
theorem nodup_inj {α : Type} {l : List α} (hn : l.Nodup) {i j : Nat} (hi : i < l.length) (hj : j < l.length) (h : l[i] = l[j]) : i = j := by
  rcases Nat.lt_trichotomy i j with h1 | h1 | h1
  · exact absurd h (List.pairwise_iff_getElem.1 hn i j hi hj h1)
  · exact h1
  · exact absurd h.symm (List.pairwise_iff_getElem.1 hn j i hj hi h1)
theorem R.without_mem {rs : List Rt} (hn : rs.Nodup) {k : Nat} (hk : k < rs.length) : ∀ r, r ∈ R.without rs k ↔ r ∈ rs ∧ r ≠ rs.getD k zR := fun r => by
  have e : R.without rs k = rs.eraseIdx k := (List.eraseIdx_eq_take_drop_succ rs k).symm
  have eg : rs.getD k zR = rs[k] := by rw [List.getD_eq_getElem?_getD, List.getElem?_eq_getElem hk]; rfl
  rw [e, eg]
  constructor
  · intro h
    obtain ⟨i, hi, hne, h1⟩ := List.mem_eraseIdx_iff_getElem.1 h
    refine ⟨h1 ▸ List.getElem_mem hi, fun h2 => hne ?_⟩
    rw [← h1] at h2
    exact nodup_inj hn hi hk h2
  · rintro ⟨h, h2⟩
    obtain ⟨i, hi, rfl⟩ := List.getElem_of_mem h
    exact List.mem_eraseIdx_iff_getElem.2 ⟨i, hi, fun e => h2 (by subst e; rfl), rfl⟩
theorem R.without_len {rs : List Rt} {k : Nat} (hk : k < rs.length) : (R.without rs k).length + 1 = rs.length := by
  unfold R.without
  rw [List.length_append, List.length_take, List.length_drop]
  omega
theorem R.without_nodup {rs : List Rt} (hn : rs.Nodup) (k : Nat) : (R.without rs k).Nodup := by
  have e : R.without rs k = rs.eraseIdx k := (List.eraseIdx_eq_take_drop_succ rs k).symm
  rw [e]
  exact hn.sublist (List.eraseIdx_sublist rs k)
def R.dropE (a : Nat) (b z : Int) : Nat := if A.right a b = false then 1 else if z < 0 then 6 else 0
def R.dropL (rs : List Rt) (a : Nat) (b z : Int) : List Rt := if R.dropE a b z = 0 then R.without rs z.toNat else rs
theorem Drop_any (X : Nat → Prop) (g : Nat) (st : St) (rs : List Rt) (a : Nat) (b z : Int) (w : World) (h : TrieAt X w g st) (hX : ∀ k, X k → k < w.heap.size) (hI : Inv st rs) (hz : R.IsIx (fun s => s.a = a ∧ s.b = b) rs z) (ha : a < 4294967296) (hc : rs.length ≤ 256) (hl : st.nodes.length ≤ 800000) :
    Calls Try.prog 10 #[.pointer (some ⟨g, 0, none⟩), .agg #[.int .u32 a, .int .i64 b]] w fun e w' => e = .returned (.int .i64 (R.dropE a b z : Nat)) ∧ Ch X w w' ∧ ∃ st', TrieAt (Up X w w') w' g st' ∧ Inv st' (R.dropL rs a b z) ∧ st'.nodes.length ≤ st.nodes.length := by
  have keep : ∀ w', Below w.heap.size w w' → ∀ l, l = rs → Ch X w w' ∧ ∃ st', TrieAt (Up X w w') w' g st' ∧ Inv st' l ∧ st'.nodes.length ≤ st.nodes.length := fun w' hb l e => by
    subst e
    obtain ⟨t, h1, h2, h3⟩ := h.below hb
    exact ⟨Ch.ofBelow hb X, st, ⟨t, h1, .inl h2, h3.mono fun k hk => ⟨.inl hk.1, hk.2⟩⟩, hI, Nat.le_refl _⟩
  cases hr : A.right a b
  · have e : R.dropE a b z = 1 := by unfold R.dropE; rw [if_pos hr]
    have e2 : R.dropL rs a b z = rs := by unfold R.dropL; rw [e]; rfl
    rw [e, e2]
    exact (Drop_bad X g st a b w h hr ha).mono fun _ w' hh => ⟨hh.1, keep w' hh.2 _ rfl⟩
  · rcases hz with ⟨rfl, hno⟩ | ⟨k, hk, rfl, hp⟩
    · have e : R.dropE a b (-1) = 6 := by unfold R.dropE; rw [if_neg (by rw [hr]; simp), if_pos (by decide)]
      have e2 : R.dropL rs a b (-1) = rs := by unfold R.dropL; rw [e]; rfl
      rw [e, e2]
      refine (Drop_none X g st rs a b w h hI hr ha hl (fun s hs hk => ?_)).mono fun _ w' hh => ⟨hh.1, keep w' hh.2 _ rfl⟩
      obtain ⟨j, hj, e⟩ := List.getElem_of_mem hs
      refine hno j hj ?_
      rw [List.getD_eq_getElem?_getD, List.getElem?_eq_getElem hj]
      show rs[j].a = a ∧ rs[j].b = b
      rw [e]; exact hk
    · have e : R.dropE a b k = 0 := by unfold R.dropE; rw [if_neg (by rw [hr]; simp), if_neg (by omega)]
      have e2 : R.dropL rs a b k = R.without rs k := by unfold R.dropL; rw [if_pos e]; rfl
      rw [e, e2]
      have hnd : rs.Nodup := by obtain ⟨_, hR, _⟩ := hI; exact hR.rnd
      have := Drop_ok X g st rs (R.without rs k) (rs.getD k zR) w eq_node h hX hI (getD_mem rs k hk) (R.without_mem hnd hk) (R.without_nodup hnd k) (R.without_len hk) hc hl
      rw [hp.1, hp.2] at this
      exact this
theorem GetAny (X : Nat → Prop) (g : Nat) (st : St) (rs : List Rt) (a : Nat) (b : Int) (w : World) (h : TrieAt X w g st) (hI : Inv st rs) (ha : a < 4294967296) (hl : st.nodes.length ≤ 800000) :
    Calls Try.prog 14 #[.pointer (some ⟨g, 0, none⟩), .agg #[.int .u32 a, .int .i64 b]] w fun e w' => ∃ r ok, e = .returned (.tuple #[Rt.agg r, .bool ok]) ∧ IsGet rs a b r ok ∧ Below w.heap.size w w' := by
  obtain ⟨pl, hR, _⟩ := hI
  cases hr : A.right a b
  · refine (Get_bad X g st a b w h hr ha).mono fun _ w' hh => ⟨zR, false, hh.1, ⟨fun h => by (cases h), fun _ => ⟨rfl, fun s hs hk => ?_⟩⟩, hh.2⟩
    have := (hR.right s hs).1
    rw [hk.1, hk.2, hr] at this
    cases this
  · exact Get_any X g st rs pl a b w h hR hr ha (by omega)
end Go.Proofs.Ytpepjmcglglepaa
