/- The walk of what adds a route: whatever it is. -/
import Derived.Test.YtpepjmcglglepaaTrAdd
namespace Go.Proofs.Ytpepjmcglglepaa
open Go.RowKit
set_option maxRecDepth 100000
set_option linter.unusedVariables false
open R

/-- What is wrong with one more route. -/
def R.has (rs : List Rt) (a : Nat) (b : Int) : Bool := rs.any fun s => decide (s.a = a ∧ s.b = b)
def R.addE (rs : List Rt) (r : Rt) : Nat := if A.right r.a r.b = false then 1 else if R.has rs r.a r.b = true then 7 else if 256 ≤ rs.length then 9 else 0
theorem R.has_iff {rs : List Rt} {a : Nat} {b : Int} : R.has rs a b = true ↔ ∃ s ∈ rs, s.a = a ∧ s.b = b := by simp [R.has]

set_option maxHeartbeats 2000000 in
theorem Add_bad (X : Nat → Prop) (g : Nat) (st : St) (r : Rt) (w : World) (h : TrieAt X w g st) (hr : A.right r.a r.b = false) (ha : r.a < 4294967296) :
    Calls Try.prog 7 #[.pointer (some ⟨g, 0, none⟩), Rt.agg r] w fun e w' => e = .returned (.int .i64 1) ∧ Below w.heap.size w w' := by
  obtain ⟨a, b, o⟩ := r
  dsimp only at hr ha
  have hb0 : Below w.heap.size w (w.alloc (.cells #[.int .u32 a, .int .i64 b, .int .i64 o] 31)) := (Below.refl _ w).alloc (Nat.le_refl _) _
  obtain ⟨t, k0, _, _⟩ := (h.below hb0).ptr
  have Hr := Lib.hid hr
  clear h hr
  show Calls Try.prog 7 #[.pointer (some ⟨g, 0, none⟩), .agg #[.int .u32 a, .int .i64 b, .int .i64 o]] w _
  go_enter Try.func7, Try.ntmps7
  go_wp2_with fail
  refine (made_any g t _ k0).mono ?_
  rintro e w1 ⟨rfl, rfl⟩
  go_wp2_with fail
  refine (right_any a b _ ha).mono ?_
  rintro e w1 ⟨rfl, hb1⟩
  rw [Hr.out]
  have hbw1 : Below w.heap.size w w1 := hb0.trans (hb1.mono hb0.size)
  clear hb1 hb0 k0
  go_wp2
  go_ret
  exact ⟨rfl, hbw1⟩
theorem Add_nil (r : Rt) (w : World) :
    Calls Try.prog 7 #[.pointer none, Rt.agg r] w fun e w' => e = .returned (.int .i64 1) ∧ Below w.heap.size w w' := by
  obtain ⟨a, b, o⟩ := r
  have hb0 : Below w.heap.size w (w.alloc (.cells #[.int .u32 a, .int .i64 b, .int .i64 o] 31)) := (Below.refl _ w).alloc (Nat.le_refl _) _
  show Calls Try.prog 7 #[.pointer none, .agg #[.int .u32 a, .int .i64 b, .int .i64 o]] w _
  go_enter Try.func7, Try.ntmps7
  go_wp2_with fail
  refine (made_nil _).mono ?_
  rintro e w1 ⟨rfl, rfl⟩
  go_wp2
  go_ret
  exact ⟨rfl, hb0⟩

set_option maxHeartbeats 4000000 in
theorem Add_no (X : Nat → Prop) (g : Nat) (st : St) (rs : List Rt) (r : Rt) (w : World) (h : TrieAt X w g st) (hI : Inv st rs) (hr : A.right r.a r.b = true) (ha : r.a < 4294967296) (hl : st.nodes.length ≤ 800000) (hq : R.has rs r.a r.b = true ∨ rs.length = 256) :
    Calls Try.prog 7 #[.pointer (some ⟨g, 0, none⟩), Rt.agg r] w fun e w' => e = .returned (.int .i64 (if R.has rs r.a r.b = true then 7 else 9)) ∧ Below w.heap.size w w' := by
  obtain ⟨a, b, o⟩ := r
  dsimp only at hr ha hq ⊢
  obtain ⟨pl, hR, hfull⟩ := hI
  have hb0 : Below w.heap.size w (w.alloc (.cells #[.int .u32 a, .int .i64 b, .int .i64 o] 31)) := (Below.refl _ w).alloc (Nat.le_refl _) _
  have HT := Lib.hid (h.below hb0)
  obtain ⟨t, k0, _, ht⟩ := HT.out.ptr
  have HR := Lib.hid hR
  have Hr := Lib.hid hr
  have Ha := Lib.hid ha
  have HB := Lib.hid (RBlk.new w ⟨a, b, o⟩)
  have Hq := Lib.hid hq
  have Hs : Hid (R.has rs a b = true ↔ ∃ s ∈ rs, s.a = a ∧ s.b = b) := Lib.hid R.has_iff
  generalize hH : R.has rs a b = H at *
  clear h hR hr ha hfull ht hq hH
  show Calls Try.prog 7 #[.pointer (some ⟨g, 0, none⟩), .agg #[.int .u32 a, .int .i64 b, .int .i64 o]] w _
  go_enter Try.func7, Try.ntmps7
  go_wp2_with fail
  refine (made_any g t _ k0).mono ?_
  rintro e w1 ⟨rfl, rfl⟩
  go_wp2_with fail
  refine (right_any a b _ Ha.out).mono ?_
  rintro e w1 ⟨rfl, hb1⟩
  rw [Hr.out]
  have HT1 := Lib.hid (HT.out.below hb1)
  have HB1 := Lib.hid (HB.out.below hb1)
  have k1 := cell_below hb1 k0
  obtain ⟨p0, p1, p2⟩ := HB1.out.cells
  have hbw1 : Below w.heap.size w w1 := hb0.trans (hb1.mono hb0.size)
  clear HT HB k0 hb1 hb0
  dsimp only at p0 p1 p2
  go_wp2_with fail
  refine (Get_any X g st rs pl a b w1 HT1.out HR.out Hr.out Ha.out (by omega)).mono ?_
  rintro e w2 ⟨r', ok, rfl, hget, hb2⟩
  have hok : ok = H := by
    cases ok
    · have h2 := (hget.no rfl).2
      cases H
      · rfl
      · obtain ⟨s, h3, h4⟩ := Hs.out.1 rfl
        exact absurd h4 (h2 s h3)
    · obtain ⟨e1, e2, e3⟩ := hget.yes rfl
      exact (Hs.out.2 ⟨r', e1, e2, e3⟩).symm
  subst hok
  have HT2 := Lib.hid (HT1.out.below hb2)
  have hbw2 : Below w.heap.size w w2 := hbw1.trans (hb2.mono hbw1.size)
  clear HT1 HB1 k1 p0 p1 p2 hb2 hget hbw1 Hs
  obtain ⟨ra, rb, ro⟩ := r'
  unfold Rt.agg
  dsimp only
  have hb3 : Below w2.heap.size w2 (w2.alloc (.cells #[.int .u32 ra, .int .i64 rb, .int .i64 ro] 31)) := (Below.refl _ _).alloc (Nat.le_refl _) _
  have HT3 := Lib.hid (HT2.out.below hb3)
  have hbw3 := hbw2.trans (hb3.mono hbw2.size)
  clear HT2 hb3 hbw2
  cases ok
  · go_upto_region 6 with fail
    generalize w2.alloc (.cells #[.int .u32 ra, .int .i64 rb, .int .i64 ro] 31) = w3 at *
    obtain ⟨t3, k3, _, ht3⟩ := HT3.out.ptr
    obtain ⟨bn3, cn3, af3, cf3, c0, c1, c2, hfz3⟩ := ht3.cells HR.out.zero
    have hcnt : ((st.count : Int) == 256) = true := by
      rw [beq_iff_eq, HR.out.count]
      rcases Hq.out with h | h
      · cases h
      · omega
    clear ht3 HT3 c0 c1 hfz3
    go_wp2
    go_ret
    exact ⟨rfl, hbw3⟩
  · go_wp2
    go_ret
    exact ⟨rfl, hbw3⟩

/-- Whatever the route. -/
theorem Add_any (X : Nat → Prop) (g : Nat) (st : St) (rs : List Rt) (r : Rt) (w : World) (h : TrieAt X w g st) (hX : ∀ k, X k → k < w.heap.size) (hI : Inv st rs) (ha : r.a < 4294967296) (hc : rs.length ≤ 256) (hl : st.nodes.length ≤ 800000) :
    Calls Try.prog 7 #[.pointer (some ⟨g, 0, none⟩), Rt.agg r] w fun e w' => e = .returned (.int .i64 (R.addE rs r : Nat)) ∧ Ch X w w' ∧ ∃ st', TrieAt (Up X w w') w' g st' ∧ Inv st' (if R.addE rs r = 0 then rs ++ [r] else rs) ∧ st'.nodes.length ≤ st.nodes.length + 32 := by
  have keep : ∀ w', Below w.heap.size w w' → ∀ l, l = rs → Ch X w w' ∧ ∃ st', TrieAt (Up X w w') w' g st' ∧ Inv st' l ∧ st'.nodes.length ≤ st.nodes.length + 32 := fun w' hb l e => by
    subst e
    obtain ⟨t, h1, h2, h3⟩ := h.below hb
    exact ⟨Ch.ofBelow hb X, st, ⟨t, h1, .inl h2, h3.mono fun k hk => ⟨.inl hk.1, hk.2⟩⟩, hI, by omega⟩
  cases hr : A.right r.a r.b
  · have e : R.addE rs r = 1 := by unfold R.addE; rw [if_pos hr]
    rw [e]
    exact (Add_bad X g st r w h hr ha).mono fun _ w' hh => ⟨hh.1, keep w' hh.2 _ rfl⟩
  · by_cases hh : R.has rs r.a r.b = true
    · have e : R.addE rs r = 7 := by unfold R.addE; rw [if_neg (by rw [hr]; simp), if_pos hh]
      rw [e]
      refine (Add_no X g st rs r w h hI hr ha hl (.inl hh)).mono fun _ w' h2 => ⟨?_, keep w' h2.2 _ rfl⟩
      have := h2.1
      rw [if_pos hh] at this
      exact this
    · by_cases hf : 256 ≤ rs.length
      · have e : R.addE rs r = 9 := by unfold R.addE; rw [if_neg (by rw [hr]; simp), if_neg hh, if_pos hf]
        rw [e]
        refine (Add_no X g st rs r w h hI hr ha hl (.inr (by omega))).mono fun _ w' h2 => ⟨?_, keep w' h2.2 _ rfl⟩
        have := h2.1
        rw [if_neg hh] at this
        exact this
      · have e : R.addE rs r = 0 := by unfold R.addE; rw [if_neg (by rw [hr]; simp), if_neg hh, if_neg hf]
        rw [e]
        exact Add_ok X g st rs r w h hX hI hr ha (fun s hs hk => hh (R.has_iff.2 ⟨s, hs, hk⟩)) (by omega) hl
#print axioms Add_any
end Go.Proofs.Ytpepjmcglglepaa
