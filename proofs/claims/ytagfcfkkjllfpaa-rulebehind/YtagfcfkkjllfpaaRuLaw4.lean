/- RuleBehind, walked whole. -/
import Derived.Test.YtagfcfkkjllfpaaRuMore
namespace Go.Proofs.Ytagfcfkkjllfpaa
open Go.RowKit
set_option maxRecDepth 100000
set_option linter.unusedVariables false
open U

theorem Try.infoRule : (Try.prog.info? 34).map (fun i => (i.zero, i.size, i.bytes)) = some (some (.agg zRu.v.toArray), 12, 96) := by kernel_rfl
theorem ru_one (x : Ru) : ∀ u ∈ x.v, u.oneCell' = true := by
  intro u hu
  simp only [Ru.v, List.mem_cons, List.not_mem_nil, or_false] at hu
  rcases hu with rfl | rfl | rfl | rfl | rfl | rfl | rfl | rfl | rfl | rfl | rfl | rfl <;> rfl
namespace U
theorem ru_app (l : List Ru) (r : Ru) (k : Nat) (h : k < l.length) : ru (l ++ [r]) k = ru l k := by
  unfold ru
  rw [List.getD_eq_getElem?_getD, List.getD_eq_getElem?_getD, List.getElem?_append_left h]
theorem ru_app_last (l : List Ru) (r : Ru) : ru (l ++ [r]) l.length = r := by
  unfold ru
  rw [List.getD_eq_getElem?_getD, List.getElem?_append_right (Nat.le_refl _)]
  simp
theorem behind_cases (l : List Ru) (r : Ru) (a : Ask) : (∃ k : Nat, k < l.length ∧ Rfirst l a = k ∧ Rfirst (l ++ [r]) a = k ∧ Rfirst (r :: l) a = (if r.m a then 0 else (k : Int) + 1)) ∨
    (Rfirst l a = -1 ∧ Rfirst (l ++ [r]) a = (if r.m a then (l.length : Int) else -1) ∧ Rfirst (r :: l) a = (if r.m a then 0 else -1)) := by
  have hc0 : ru (r :: l) 0 = r := rfl
  have hcs : ∀ k, ru (r :: l) (k + 1) = ru l k := fun k => rfl
  have hyes : r.m a = true → Rfirst (r :: l) a = 0 := fun h => by
    have := first_some (p := fun k => (ru (r :: l) k).m a) (n := (r :: l).length) (k := 0) (by simp) (fun j hj => by omega) h
    exact this
  rcases first_cases (fun k => (ru l k).m a) l.length with ⟨h1, h2⟩ | ⟨k, h1, h2, h3, h4⟩
  · refine .inr ⟨h1, ?_, ?_⟩
    · cases hm : r.m a
      · refine first_none fun k hk => ?_
        rw [List.length_append] at hk
        simp only [List.length_cons, List.length_nil] at hk
        by_cases e : k = l.length
        · subst e
          show (ru (l ++ [r]) l.length).m a = false
          rw [ru_app_last]; exact hm
        · show (ru (l ++ [r]) k).m a = false
          rw [ru_app _ _ _ (by omega)]; exact h2 k (by omega)
      · refine first_some (by simp) (fun j hj => ?_) ?_
        · show (ru (l ++ [r]) j).m a = false
          rw [ru_app _ _ _ hj]; exact h2 j hj
        · show (ru (l ++ [r]) l.length).m a = true
          rw [ru_app_last]; exact hm
    · cases hm : r.m a
      · refine first_none fun k hk => ?_
        cases k with
        | zero => exact hm
        | succ k => exact h2 k (by simpa using hk)
      · exact hyes hm
  · refine .inl ⟨k, h2, h1, ?_, ?_⟩
    · refine first_some (by simp; omega) (fun j hj => ?_) ?_
      · show (ru (l ++ [r]) j).m a = false
        rw [ru_app _ _ _ (by omega)]; exact h3 j hj
      · show (ru (l ++ [r]) k).m a = true
        rw [ru_app _ _ _ h2]; exact h4
    · cases hm : r.m a
      · have := first_some (p := fun k => (ru (r :: l) k).m a) (n := (r :: l).length) (k := k + 1) (by simpa using h2) (fun j hj => by
          cases j with
          | zero => exact hm
          | succ j => exact h3 j (by omega)) h4
        have e : Rfirst (r :: l) a = ((k + 1 : Nat) : Int) := this
        rw [e]
        simp
      · exact hyes hm
end U

-- REGIONS
theorem vs_5 (vs : List Value) (h : vs.length = 5) : ∃ v0 v1 v2 v3 v4, vs = [v0, v1, v2, v3, v4] := by
  obtain ⟨v0, r0, rfl, h0⟩ := vs_cons vs h
  obtain ⟨v1, r1, rfl, h1⟩ := vs_cons r0 h0
  obtain ⟨v2, r2, rfl, h2⟩ := vs_cons r1 h1
  obtain ⟨v3, r3, rfl, h3⟩ := vs_cons r2 h2
  obtain ⟨v4, r4, rfl, h4⟩ := vs_cons r3 h3
  obtain rfl := List.eq_nil_of_length_eq_zero h4
  exact ⟨v0, v1, v2, v3, v4, rfl⟩

set_option maxHeartbeats 16000000 in
theorem rbehind_law (a0 : Option Addr) (cap : Nat) (l : List Ru) (r : Ru) (a : U.Ask) (w : World) (h : RRow w a0 l) (hf : Fine l) (hr : r.fine) (ha : a.fine) :
    Calls Try.prog 6 #[.slice a0 l.length cap, .agg r.v.toArray, .agg a.v.toArray] w fun e w' => e = .returned (.bool true) ∧ Below w.heap.size w w' := by
  have hb0 := below2 w (.cells r.v.toArray 34) (.cells a.v.toArray 27)
  by_cases h60 : 60 < l.length
  · have h60' : (60 : Int) < (l.length : Int) := by omega
    obtain ⟨i, o, sa, sb, da, db, p, slo, shi, dlo, dhi, al⟩ := r
    obtain ⟨ai, ao, as_, ad, ap, asp, adp⟩ := a
    simp only [Ask.v, Ru.v] at *
    go_enter Try.func6, Try.ntmps6
    go_wp2_with fail
    refine (rule_awake _).mono ?_
    rintro e w1 ⟨rfl, hb1⟩
    have hbw := hb0.trans (hb1.mono hb0.size)
    go_wp2
    go_ret
    exact ⟨rfl, hbw⟩
  have h60' : ¬ (60 : Int) < (l.length : Int) := by omega
  have hl60 : l.length ≤ 60 := by omega
  have hfb : Fine (l ++ [r]) := fun x hx => by
    rcases List.mem_append.1 hx with h1 | h1
    · exact hf x h1
    · rw [List.mem_singleton.1 h1]; exact hr
  have hfa : Fine (r :: l) := fun x hx => by
    rcases List.mem_cons.1 hx with h1 | h1
    · rw [h1]; exact hr
    · exact hf x h1
  have HB := Lib.hid (fun ao cp w' (hR : RRow w' ao (l ++ [r])) => First_any ao cp (l ++ [r]) a w' hR hfb ha (by simp; omega))
  have HA := Lib.hid (fun ao cp w' (hR : RRow w' ao (r :: l)) => First_any ao cp (r :: l) a w' hR hfa ha (by simp; omega))
  have HFI := Lib.hid (fun w' (hb : Below w.heap.size w w') => First_any a0 cap l a w' (h.below hb) hf ha (by omega))
  have HM := Lib.hid (fun w' => Matches_any r a w' hr ha)
  rw [show (l ++ [r]).length = l.length + 1 from by simp] at HB
  rw [show (r :: l).length = 1 + l.length from by simp; omega] at HA
  have HC := Lib.hid (behind_cases l r a)
  have HR := Lib.hid h
  have LR0 := Lib.hid (show (l ++ [r]).flatMap Ru.v = l.flatMap Ru.v ++ r.v by simp)
  have LR1 := Lib.hid (show (r :: l).flatMap Ru.v = r.v ++ l.flatMap Ru.v by simp)
  have HROne := Lib.hid (fun (g : Nat) (w' : World) (hk : w'.heap[g]? = some (.cells r.v.toArray 34 (0, 0))) => (RowsOf.of_block (n := 12) (f := Ru.v) (l := [r]) (fun _ => rfl) (by simp) hk))
  generalize Rfirst (l ++ [r]) a = fx at *
  generalize Rfirst (r :: l) a = fy at *
  generalize Rfirst l a = fi at *
  generalize r.m a = mm at *
  clear h hf hr ha hfb hfa h60
  obtain ⟨i, o, sa, sb, da, db, p, slo, shi, dlo, dhi, al⟩ := r
  obtain ⟨ai, ao, as_, ad, ap, asp, adp⟩ := a
  simp only [Ru.v, Ask.v] at hb0 HB HA HFI HM HROne ⊢
  go_enter Try.func6, Try.ntmps6
  go_wp2
  have L0 : Hid (Lies ((w.alloc (.cells #[.int .i64 i, .int .i64 o, .int .u32 sa, .int .i64 sb, .int .u32 da, .int .i64 db, .int .i64 p, .int .i64 slo, .int .i64 shi, .int .i64 dlo, .int .i64 dhi, .bool al] 34)).alloc (.cells #[.int .i64 ai, .int .i64 ao, .int .u32 as_, .int .u32 ad, .int .i64 ap, .int .i64 asp, .int .i64 adp] 27)) w.heap.size 0 [.int .i64 i, .int .i64 o, .int .u32 sa, .int .i64 sb, .int .u32 da, .int .i64 db, .int .i64 p, .int .i64 slo, .int .i64 shi, .int .i64 dlo, .int .i64 dhi, .bool al]) := Lib.hid ((Lies.new w [.int .i64 i, .int .i64 o, .int .u32 sa, .int .i64 sb, .int .u32 da, .int .i64 db, .int .i64 p, .int .i64 slo, .int .i64 shi, .int .i64 dlo, .int .i64 dhi, .bool al] _).alloc _)
  have L1 : Hid (Lies ((w.alloc (.cells #[.int .i64 i, .int .i64 o, .int .u32 sa, .int .i64 sb, .int .u32 da, .int .i64 db, .int .i64 p, .int .i64 slo, .int .i64 shi, .int .i64 dlo, .int .i64 dhi, .bool al] 34)).alloc (.cells #[.int .i64 ai, .int .i64 ao, .int .u32 as_, .int .u32 ad, .int .i64 ap, .int .i64 asp, .int .i64 adp] 27)) (w.heap.size + 1) 0 [.int .i64 ai, .int .i64 ao, .int .u32 as_, .int .u32 ad, .int .i64 ap, .int .i64 asp, .int .i64 adp]) := Lib.hid (Lies.newAt (by simp))
  generalize ((w.alloc (.cells #[.int .i64 i, .int .i64 o, .int .u32 sa, .int .i64 sb, .int .u32 da, .int .i64 db, .int .i64 p, .int .i64 slo, .int .i64 shi, .int .i64 dlo, .int .i64 dhi, .bool al] 34)).alloc (.cells #[.int .i64 ai, .int .i64 ao, .int .u32 as_, .int .u32 ad, .int .i64 ap, .int .i64 asp, .int .i64 adp] 27)) = W0 at *
  have HR0 := Lib.hid (HR.out.below hb0)
  refine region_gen_tail 5 (VG W0.heap.size [.val (.slice none 0 0), .val (.slice a0 l.length cap), .pr (fun v w => ∃ ao cp, v = .slice ao l.length cp ∧ Own W0.heap.size 34 12 ao cp l.length (l.flatMap Ru.v) w) (fun v w w' ⟨ao, cp, h1, h2⟩ hb => ⟨ao, cp, h1, Own.carry h2 hb⟩), .val (.agg #[.int .i64 i, .int .i64 o, .int .u32 sa, .int .i64 sb, .int .u32 da, .int .i64 db, .int .i64 p, .int .i64 slo, .int .i64 shi, .int .i64 dlo, .int .i64 dhi, .bool al]), .row (#[.int .i64 i, .int .i64 o, .int .u32 sa, .int .i64 sb, .int .u32 da, .int .i64 db, .int .i64 p, .int .i64 slo, .int .i64 shi, .int .i64 dlo, .int .i64 dhi, .bool al]) 34 1]) (BS W0) (by kernel_rfl) (by kernel_rfl) (by kernel_rfl) (Below.refl _ _).drew ⟨?_, ?_, ?_, ?_, ?_, trivial⟩ ?_
  · go_light; intro listed a' w' hs hS hun hdep
    have n7 := hs.lat 0 6 hun _ rfl .phase (by simp) rfl
    have e7 : a'.eval (.tmp 7) = .slice none 0 0 := (hs.yet 7 6 (by kernel_rfl) n7).trans (rfl)
    exact g_val (.slice none 0 0) hS rfl (op_move rfl e7) rfl
  · go_light; intro listed a' w' hs hS hun hdep
    have e0 : a'.eval (.tmp 0) = .slice a0 l.length cap := (hs.out 0 (by kernel_rfl)).trans (rfl)
    exact g_val (.slice a0 l.length cap) hS rfl (op_move rfl e0) rfl
  · go_light; intro listed a' w' hs hS hun hdep
    have e17 : a'.eval (.tmp 17) = (.slice none 0 0) := hs.eval 0 _ 17 rfl (hdep ⟨0, .data⟩ (by simp) rfl) rfl
    have e18 : a'.eval (.tmp 18) = (.slice a0 l.length cap) := hs.eval 1 _ 18 rfl (hdep ⟨1, .data⟩ (by simp) rfl) rfl
    obtain ⟨aoB, cpB, wB, hrunB, hownB, hgB, _⟩ := Own.appRows 34 22 _ 12 96 Try.underlying22 Try.infoRule rfl (by omega) (by omega) W0.heap.size none 0 0 [] w' (World.ownsRow_nil _ _ _ _) a0 cap l (HR0.out.below hS) (fun _ => rfl) ru_one 22 (by omega) (Below.size hS)
    rw [Nat.zero_add] at hrunB hownB
    exact g_run (.slice aoB l.length cpB) wB hS rfl (op_app rfl e17 e18 hrunB) ((Below.refl _ w').grown hgB (Nat.le_refl _) (fun g hg => by cases hg)) ⟨aoB, cpB, rfl, hownB⟩
  · go_light; intro listed a' w' hs hS hun hdep
    have e4 : a'.eval (.tmp 4) = .pointer (some ⟨w.heap.size, 0, none⟩) := (hs.out 4 (by kernel_rfl)).trans (rfl)
    exact g_val (.agg #[.int .i64 i, .int .i64 o, .int .u32 sa, .int .i64 sb, .int .u32 da, .int .i64 db, .int .i64 p, .int .i64 slo, .int .i64 shi, .int .i64 dlo, .int .i64 dhi, .bool al]) hS rfl (op_ld [.int .i64 i, .int .i64 o, .int .u32 sa, .int .i64 sb, .int .u32 da, .int .i64 db, .int .i64 p, .int .i64 slo, .int .i64 shi, .int .i64 dlo, .int .i64 dhi, .bool al] rfl e4 (L0.out.below hS) 0 (by first | rfl | simp) rfl Try.underlying34 rfl (by kernel_rfl)) rfl
  · go_light; intro listed a' w' hs hS hun hdep
    have e20 : a'.eval (.tmp 20) = (.agg #[.int .i64 i, .int .i64 o, .int .u32 sa, .int .i64 sb, .int .u32 da, .int .i64 db, .int .i64 p, .int .i64 slo, .int .i64 shi, .int .i64 dlo, .int .i64 dhi, .bool al]) := hs.eval 3 _ 20 rfl (hdep ⟨3, .data⟩ (by simp) rfl) rfl
    refine g_new (.slice (some ⟨w'.heap.size, 0, none⟩) 1 1) (.cells (#[.int .i64 i, .int .i64 o, .int .u32 sa, .int .i64 sb, .int .u32 da, .int .i64 db, .int .i64 p, .int .i64 slo, .int .i64 shi, .int .i64 dlo, .int .i64 dhi, .bool al]) 34) hS rfl ?_ ⟨w'.heap.size, Below.size hS, rfl, heap_alloc_new w' _⟩
    have hcn := BigFrame.eval_const a'; have hfn := BigFrame.eval_func a'; clear hs hdep; generalize a'.eval = ev at *; go_simp
  · intro vs w3 hlen hV hS
    obtain ⟨v0, v1, v2, v3, v4, rfl⟩ := vs_5 vs (hlen.trans rfl)
    have q0 : v0 = .slice none 0 0 := hV 0 _ rfl
    have q1 : v1 = .slice a0 l.length cap := hV 1 _ rfl
    have p2 : (fun v w => ∃ ao cp, v = .slice ao l.length cp ∧ Own W0.heap.size 34 12 ao cp l.length (l.flatMap Ru.v) w) v2 w3 := hV 2 _ rfl
    have q3 : v3 = .agg #[.int .i64 i, .int .i64 o, .int .u32 sa, .int .i64 sb, .int .u32 da, .int .i64 db, .int .i64 p, .int .i64 slo, .int .i64 shi, .int .i64 dlo, .int .i64 dhi, .bool al] := hV 3 _ rfl
    obtain ⟨b4, hge4, q4, hbk4⟩ : (.row (#[.int .i64 i, .int .i64 o, .int .u32 sa, .int .i64 sb, .int .u32 da, .int .i64 db, .int .i64 p, .int .i64 slo, .int .i64 shi, .int .i64 dlo, .int .i64 dhi, .bool al]) 34 1 : GV).ok W0.heap.size v4 w3 := hV 4 _ rfl
    have hbel : Below W0.heap.size W0 w3 := hS
    subst q0 q1 q3 q4
    clear hV hS hlen
    simp only [lays, Act.put, List.setIfInBounds_toArray, List.set_cons_zero, List.set_cons_succ, List.drop_succ_cons, List.drop_zero, List.take_succ_cons, List.take_zero]
    obtain ⟨ao1, cp1, e1, hown1⟩ := p2
    subst e1
    have hs3 := hbel.size
    obtain ⟨ao2, cp2, w4, hrun2, hown2, hg2, _⟩ := Own.appRows 34 22 _ 12 96 Try.underlying22 Try.infoRule rfl (by omega) (by omega) W0.heap.size ao1 cp1 l.length (l.flatMap Ru.v) w3 hown1 (some ⟨b4, 0, none⟩) 1 [⟨i, o, sa, sb, da, db, p, slo, shi, dlo, dhi, al⟩] (HROne.out _ _ hbk4) (fun _ => rfl) ru_one 22 (by simp; omega) hs3
    have Hrun2 := Lib.hid hrun2
    have hb4 : Below W0.heap.size W0 w4 := hbel.grown hg2 hs3 hown1.low
    have hrow2 : RRow w4 ao2 (l ++ [⟨i, o, sa, sb, da, db, p, slo, shi, dlo, dhi, al⟩]) := RowsOf.of_own hown2 (fun _ => rfl) (by simp) (by omega)
    have HROW2 := Lib.hid hrow2
    have hbw4 := hb0.trans (hb4.mono hb0.size)
    clear hown1 hown2 hrun2 hg2 hbk4 hbel HR0 hs3 hge4 hrow2
    refine listAppend rfl _ _ _ _ rfl _ _ rfl rfl _ _ Hrun2.out ?_
    clear Hrun2
    go_upto_region 5 with fail
    have LR4 := Lib.hid (L0.out.below hb4)
    have hs4 := hb4.size
    have hnew : (w4.alloc (.cells #[.int .i64 i, .int .i64 o, .int .u32 sa, .int .i64 sb, .int .u32 da, .int .i64 db, .int .i64 p, .int .i64 slo, .int .i64 shi, .int .i64 dlo, .int .i64 dhi, .bool al] 34)).heap[w4.heap.size]? = some (.cells #[.int .i64 i, .int .i64 o, .int .u32 sa, .int .i64 sb, .int .u32 da, .int .i64 db, .int .i64 p, .int .i64 slo, .int .i64 shi, .int .i64 dlo, .int .i64 dhi, .bool al] 34 (0, 0)) := heap_alloc_new w4 _
    have hb5 := hb4.alloc hs4 (.cells #[.int .i64 i, .int .i64 o, .int .u32 sa, .int .i64 sb, .int .u32 da, .int .i64 db, .int .i64 p, .int .i64 slo, .int .i64 shi, .int .i64 dlo, .int .i64 dhi, .bool al] 34)
    obtain ⟨ao3, cp3, w6, hrun3, hown3, hg3, hgo3⟩ := Own.appRows 34 22 _ 12 96 Try.underlying22 Try.infoRule rfl (by omega) (by omega) W0.heap.size none 0 0 [] _ (World.ownsRow_nil _ _ _ _) (some ⟨w4.heap.size, 0, none⟩) 1 [⟨i, o, sa, sb, da, db, p, slo, shi, dlo, dhi, al⟩] (HROne.out _ _ hnew) (fun _ => rfl) ru_one 22 (by simp) hb5.size
    simp only [List.length_cons, List.length_nil, Nat.zero_add, List.nil_append] at hrun3 hown3
    have hb6 : Below W0.heap.size W0 w6 := hb5.grown hg3 hb5.size (fun g hg => by cases hg)
    have hk6 : Below w4.heap.size w4 w6 := ((Below.refl _ w4).alloc (Nat.le_refl _) _).grown hg3 (by simp) (fun g hg => by cases hg)
    have hlow3 : ∀ g, Value.ownBlock (.slice ao3 1 cp3) = some g → w4.heap.size ≤ g := fun g hg => by
      rcases hgo3 g (by simpa using hg) with h1 | h1
      · cases h1
      · simp at h1; omega
    obtain ⟨ao4, cp4, w7, hrun4, hown4, hg4, _⟩ := Own.appRows 34 22 _ 12 96 Try.underlying22 Try.infoRule rfl (by omega) (by omega) W0.heap.size ao3 cp3 1 _ w6 hown3 a0 cap l (HR.out.below (hb0.trans (hb6.mono hb0.size))) (fun _ => rfl) ru_one 22 (by omega) hb6.size
    have hb7 : Below W0.heap.size W0 w7 := hb6.grown hg4 hb6.size hown3.low
    have hk7 : Below w4.heap.size w4 w7 := hk6.grown hg4 hk6.size hlow3
    have hbw7 := hb0.trans (hb7.mono hb0.size)
    have Hrun3 := Lib.hid hrun3
    have Hrun4 := Lib.hid hrun4
    have HROW4 : Hid (RRow w7 ao4 (⟨i, o, sa, sb, da, db, p, slo, shi, dlo, dhi, al⟩ :: l)) := Lib.hid (RowsOf.of_own hown4 (fun _ => rfl) (by simp) (by omega))
    have HROW2 := Lib.hid (HROW2.out.below hk7)
    have LR7 := Lib.hid (L0.out.below hb7)
    have LA7 := Lib.hid (L1.out.below hb7)
    clear hrun3 hrun4 hown3 hown4 hg3 hg4 hgo3 hlow3 hk6 hk7 hb6 hb5 hnew HROne
    have c0 := LR4.out.at0 0 0 _ rfl (Nat.zero_add _)
    have c1 := LR4.out.at0 1 1 _ rfl (Nat.zero_add _)
    have c2 := LR4.out.at0 2 2 _ rfl (Nat.zero_add _)
    have c3 := LR4.out.at0 3 3 _ rfl (Nat.zero_add _)
    have c4 := LR4.out.at0 4 4 _ rfl (Nat.zero_add _)
    have c5 := LR4.out.at0 5 5 _ rfl (Nat.zero_add _)
    have c6 := LR4.out.at0 6 6 _ rfl (Nat.zero_add _)
    have c7 := LR4.out.at0 7 7 _ rfl (Nat.zero_add _)
    have c8 := LR4.out.at0 8 8 _ rfl (Nat.zero_add _)
    have c9 := LR4.out.at0 9 9 _ rfl (Nat.zero_add _)
    have c10 := LR4.out.at0 10 10 _ rfl (Nat.zero_add _)
    have c11 := LR4.out.at0 11 11 _ rfl (Nat.zero_add _)
    go_upto_region 6 with (first | (at_builtin; refine listAppend rfl _ _ _ _ rfl _ _ rfl rfl _ _ Hrun3.out ?_) | (at_builtin; refine listAppend rfl _ _ _ _ rfl _ _ rfl rfl _ _ Hrun4.out ?_))
    clear c0 c1 c2 c3 c4 c5 c6 c7 c8 c9 c10 c11 LR4 hs4 hb4 hb7 Hrun3 Hrun4 hb0 hbw4 HR L0 L1 LR0 LR1
    have f0 := LA7.out.at0 0 0 _ rfl (Nat.zero_add _)
    have f1 := LA7.out.at0 1 1 _ rfl (Nat.zero_add _)
    have f2 := LA7.out.at0 2 2 _ rfl (Nat.zero_add _)
    have f3 := LA7.out.at0 3 3 _ rfl (Nat.zero_add _)
    have f4 := LA7.out.at0 4 4 _ rfl (Nat.zero_add _)
    have f5 := LA7.out.at0 5 5 _ rfl (Nat.zero_add _)
    have f6 := LA7.out.at0 6 6 _ rfl (Nat.zero_add _)
    go_wp2_with fail
    refine (HFI.out _ hbw7).mono ?_
    rintro e w8 ⟨rfl, hb8⟩
    have hbw8 := hbw7.trans (hb8.mono hbw7.size)
    have HROW2 := Lib.hid (HROW2.out.below hb8)
    have HROW4 := Lib.hid (HROW4.out.below hb8)
    have LR8 := Lib.hid (LR7.out.below hb8)
    have LA8 := Lib.hid (LA7.out.below hb8)
    clear f0 f1 f2 f3 f4 f5 f6 LR7 LA7 hb8 hbw7
    have c0 := LR8.out.at0 0 0 _ rfl (Nat.zero_add _)
    have c1 := LR8.out.at0 1 1 _ rfl (Nat.zero_add _)
    have c2 := LR8.out.at0 2 2 _ rfl (Nat.zero_add _)
    have c3 := LR8.out.at0 3 3 _ rfl (Nat.zero_add _)
    have c4 := LR8.out.at0 4 4 _ rfl (Nat.zero_add _)
    have c5 := LR8.out.at0 5 5 _ rfl (Nat.zero_add _)
    have c6 := LR8.out.at0 6 6 _ rfl (Nat.zero_add _)
    have c7 := LR8.out.at0 7 7 _ rfl (Nat.zero_add _)
    have c8 := LR8.out.at0 8 8 _ rfl (Nat.zero_add _)
    have c9 := LR8.out.at0 9 9 _ rfl (Nat.zero_add _)
    have c10 := LR8.out.at0 10 10 _ rfl (Nat.zero_add _)
    have c11 := LR8.out.at0 11 11 _ rfl (Nat.zero_add _)
    have f0 := LA8.out.at0 0 0 _ rfl (Nat.zero_add _)
    have f1 := LA8.out.at0 1 1 _ rfl (Nat.zero_add _)
    have f2 := LA8.out.at0 2 2 _ rfl (Nat.zero_add _)
    have f3 := LA8.out.at0 3 3 _ rfl (Nat.zero_add _)
    have f4 := LA8.out.at0 4 4 _ rfl (Nat.zero_add _)
    have f5 := LA8.out.at0 5 5 _ rfl (Nat.zero_add _)
    have f6 := LA8.out.at0 6 6 _ rfl (Nat.zero_add _)
    go_wp2_with fail
    refine (HM.out _).mono ?_
    rintro e w9 ⟨rfl, hb9⟩
    have hbw9 := hbw8.trans (hb9.mono hbw8.size)
    have LA9 := Lib.hid (LA8.out.below hb9)
    have HX := Lib.hid (fun w' (hb : Below w9.heap.size w9 w') => HB.out ao2 cp2 w' ((HROW2.out.below hb9).below hb))
    have HY := Lib.hid (fun w' (hb : Below w9.heap.size w9 w') => HA.out ao4 cp4 w' ((HROW4.out.below hb9).below hb))
    clear f0 f1 f2 f3 f4 f5 f6 c0 c1 c2 c3 c4 c5 c6 c7 c8 c9 c10 c11 LR8 LA8 hb9 hbw8 HROW2 HROW4 HB HA HFI HM
    go_wp2
    have C37 := Lib.hid (fun (w' : World) (hb : Below w9.heap.size w9 w') => show Calls Try.prog 15 #[.slice ao2 (l.length + 1) cp2, .agg #[.int .i64 ai, .int .i64 ao, .int .u32 as_, .int .u32 ad, .int .i64 ap, .int .i64 asp, .int .i64 adp]] w' (fun e w'' => e = .returned (.int .i64 fx) ∧ Below w'.heap.size w' w'') from (by exact HX.out w' hb))
    have C40 := Lib.hid (fun (w' : World) (hb : Below w9.heap.size w9 w') => show Calls Try.prog 15 #[.slice ao4 (1 + l.length) cp4, .agg #[.int .i64 ai, .int .i64 ao, .int .u32 as_, .int .u32 ad, .int .i64 ap, .int .i64 asp, .int .i64 adp]] w' (fun e w'' => e = .returned (.int .i64 fy) ∧ Below w'.heap.size w' w'') from (by exact HY.out w' hb))
    refine region_gen (VG w9.heap.size [.val (.slice ao2 (l.length + 1) cp2), .val (.agg #[.int .i64 ai, .int .i64 ao, .int .u32 as_, .int .u32 ad, .int .i64 ap, .int .i64 asp, .int .i64 adp]), .val (.int .i64 fx), .val (.slice ao4 (1 + l.length) cp4), .val (.agg #[.int .i64 ai, .int .i64 ao, .int .u32 as_, .int .u32 ad, .int .i64 ap, .int .i64 asp, .int .i64 adp]), .val (.int .i64 fy), .val (.int .i64 fx), .val (.int .i64 fy)]) (BS w9) (by kernel_rfl) (by kernel_rfl) (Below.refl _ _).drew ⟨?_, ?_, ?_, ?_, ?_, ?_, ?_, ?_, trivial⟩ ?_
    · go_light; intro listed a' w' hs hS hun hdep
      have e7 : a'.eval (.tmp 7) = .slice ao2 (l.length + 1) cp2 := (hs.out 7 (by kernel_rfl)).trans (rfl)
      exact g_val (.slice ao2 (l.length + 1) cp2) hS rfl (op_move rfl e7) rfl
    · go_light; intro listed a' w' hs hS hun hdep
      have e5 : a'.eval (.tmp 5) = .pointer (some ⟨w.heap.size + 1, 0, none⟩) := (hs.out 5 (by kernel_rfl)).trans (rfl)
      exact g_val (.agg #[.int .i64 ai, .int .i64 ao, .int .u32 as_, .int .u32 ad, .int .i64 ap, .int .i64 asp, .int .i64 adp]) hS rfl (op_ld [.int .i64 ai, .int .i64 ao, .int .u32 as_, .int .u32 ad, .int .i64 ap, .int .i64 asp, .int .i64 adp] rfl e5 (LA9.out.below hS) 0 (by first | rfl | simp) rfl Try.underlying27 rfl (by kernel_rfl)) rfl
    · go_light; intro listed a' w' hs hS hun hdep
      have e35 : a'.eval (.tmp 35) = (.slice ao2 (l.length + 1) cp2) := hs.eval 0 _ 35 rfl (hdep ⟨0, .data⟩ (by simp) rfl) rfl
      have e36 : a'.eval (.tmp 36) = (.agg #[.int .i64 ai, .int .i64 ao, .int .u32 as_, .int .u32 ad, .int .i64 ap, .int .i64 asp, .int .i64 adp]) := hs.eval 1 _ 36 rfl (hdep ⟨1, .data⟩ (by simp) rfl) rfl
      refine g_call 15 #[.slice ao2 (l.length + 1) cp2, .agg #[.int .i64 ai, .int .i64 ao, .int .u32 as_, .int .u32 ad, .int .i64 ap, .int .i64 asp, .int .i64 adp]] hS rfl ?_ ?_
      · have hcn := BigFrame.eval_const a'; have hfn := BigFrame.eval_func a'; clear hs hdep; generalize a'.eval = ev at *; go_simp
      · exact c_val (C37.out w' hS) rfl
    · go_light; intro listed a' w' hs hS hun hdep
      have e8 : a'.eval (.tmp 8) = .slice ao4 (1 + l.length) cp4 := (hs.out 8 (by kernel_rfl)).trans (rfl)
      exact g_val (.slice ao4 (1 + l.length) cp4) hS rfl (op_move rfl e8) rfl
    · go_light; intro listed a' w' hs hS hun hdep
      have e5 : a'.eval (.tmp 5) = .pointer (some ⟨w.heap.size + 1, 0, none⟩) := (hs.out 5 (by kernel_rfl)).trans (rfl)
      exact g_val (.agg #[.int .i64 ai, .int .i64 ao, .int .u32 as_, .int .u32 ad, .int .i64 ap, .int .i64 asp, .int .i64 adp]) hS rfl (op_ld [.int .i64 ai, .int .i64 ao, .int .u32 as_, .int .u32 ad, .int .i64 ap, .int .i64 asp, .int .i64 adp] rfl e5 (LA9.out.below hS) 0 (by first | rfl | simp) rfl Try.underlying27 rfl (by kernel_rfl)) rfl
    · go_light; intro listed a' w' hs hS hun hdep
      have e38 : a'.eval (.tmp 38) = (.slice ao4 (1 + l.length) cp4) := hs.eval 3 _ 38 rfl (hdep ⟨3, .data⟩ (by simp) rfl) rfl
      have e39 : a'.eval (.tmp 39) = (.agg #[.int .i64 ai, .int .i64 ao, .int .u32 as_, .int .u32 ad, .int .i64 ap, .int .i64 asp, .int .i64 adp]) := hs.eval 4 _ 39 rfl (hdep ⟨4, .data⟩ (by simp) rfl) rfl
      refine g_call 15 #[.slice ao4 (1 + l.length) cp4, .agg #[.int .i64 ai, .int .i64 ao, .int .u32 as_, .int .u32 ad, .int .i64 ap, .int .i64 asp, .int .i64 adp]] hS rfl ?_ ?_
      · have hcn := BigFrame.eval_const a'; have hfn := BigFrame.eval_func a'; clear hs hdep; generalize a'.eval = ev at *; go_simp
      · exact c_val (C40.out w' hS) rfl
    · go_light; intro listed a' w' hs hS hun hdep
      have e37 : a'.eval (.tmp 37) = (.int .i64 fx) := hs.eval 2 _ 37 rfl (hdep ⟨2, .data⟩ (by simp) rfl) rfl
      exact g_val (.int .i64 fx) hS rfl (op_assign rfl e37) rfl
    · go_light; intro listed a' w' hs hS hun hdep
      have e40 : a'.eval (.tmp 40) = (.int .i64 fy) := hs.eval 5 _ 40 rfl (hdep ⟨5, .data⟩ (by simp) rfl) rfl
      exact g_val (.int .i64 fy) hS rfl (op_assign rfl e40) rfl
    · intro vs w10 hlen hV listed hall hS
      obtain ⟨v0, v1, v2, v3, v4, v5, v6, v7, rfl⟩ := vs_8 vs (hlen.trans rfl)
      have q0 : v0 = .slice ao2 (l.length + 1) cp2 := hV 0 _ rfl
      have q1 : v1 = .agg #[.int .i64 ai, .int .i64 ao, .int .u32 as_, .int .u32 ad, .int .i64 ap, .int .i64 asp, .int .i64 adp] := hV 1 _ rfl
      have q2 : v2 = .int .i64 fx := hV 2 _ rfl
      have q3 : v3 = .slice ao4 (1 + l.length) cp4 := hV 3 _ rfl
      have q4 : v4 = .agg #[.int .i64 ai, .int .i64 ao, .int .u32 as_, .int .u32 ad, .int .i64 ap, .int .i64 asp, .int .i64 adp] := hV 4 _ rfl
      have q5 : v5 = .int .i64 fy := hV 5 _ rfl
      have q6 : v6 = .int .i64 fx := hV 6 _ rfl
      have q7 : v7 = .int .i64 fy := hV 7 _ rfl
      have hbel : Below w9.heap.size w9 w10 := hS
      subst q0 q1 q2 q3 q4 q5 q6 q7
      clear hV hS hlen hall
      clear listed
      simp only [lays, Act.put, List.setIfInBounds_toArray, List.set_cons_zero, List.set_cons_succ]
      have hbw10 := hbw9.trans (hbel.mono hbw9.size)
      clear hbel hbw9 HX HY LA9 C37 C40
      have hfi : -1 ≤ fi ∧ fi ≤ 60 := by rcases HC.out with ⟨k, hk, h1, _, _⟩ | ⟨h1, _, _⟩ <;> omega
      obtain ⟨hfi1, hfi2⟩ := hfi
      go_upto_region 9 with fail
      obtain ⟨n42, hn42⟩ : ∃ x, (decide (0 ≤ fi)) = x := ⟨_, rfl⟩
      replace hn42 := Lib.hid hn42
      obtain ⟨n46, hn46⟩ : ∃ x, (!(fx == fi)) = x := ⟨_, rfl⟩
      replace hn46 := Lib.hid hn46
      obtain ⟨n47, hn47⟩ : ∃ x, (n42 && n46) = x := ⟨_, rfl⟩
      replace hn47 := Lib.hid hn47
      obtain ⟨n50, hn50⟩ : ∃ x, (decide (fi < 0)) = x := ⟨_, rfl⟩
      replace hn50 := Lib.hid hn50
      obtain ⟨n53, hn53⟩ : ∃ x, (decide (0 ≤ fx)) = x := ⟨_, rfl⟩
      replace hn53 := Lib.hid hn53
      obtain ⟨n55, hn55⟩ : ∃ x, (!(n53 == mm)) = x := ⟨_, rfl⟩
      replace hn55 := Lib.hid hn55
      obtain ⟨n56, hn56⟩ : ∃ x, (n50 && n55) = x := ⟨_, rfl⟩
      replace hn56 := Lib.hid hn56
      obtain ⟨n57, hn57⟩ : ∃ x, (n47 || n56) = x := ⟨_, rfl⟩
      replace hn57 := Lib.hid hn57
      obtain ⟨n62, hn62⟩ : ∃ x, (!(fy == 0)) = x := ⟨_, rfl⟩
      replace hn62 := Lib.hid hn62
      obtain ⟨n63, hn63⟩ : ∃ x, (mm && n62) = x := ⟨_, rfl⟩
      replace hn63 := Lib.hid hn63
      obtain ⟨n64, hn64⟩ : ∃ x, (n57 || n63) = x := ⟨_, rfl⟩
      replace hn64 := Lib.hid hn64
      obtain ⟨n67, hn67⟩ : ∃ x, (!mm) = x := ⟨_, rfl⟩
      replace hn67 := Lib.hid hn67
      obtain ⟨n70, hn70⟩ : ∃ x, (decide (0 ≤ fi)) = x := ⟨_, rfl⟩
      replace hn70 := Lib.hid hn70
      obtain ⟨n71, hn71⟩ : ∃ x, (n67 && n70) = x := ⟨_, rfl⟩
      replace hn71 := Lib.hid hn71
      obtain ⟨n76, hn76⟩ : ∃ x, (!(fy == (fi + 1))) = x := ⟨_, rfl⟩
      replace hn76 := Lib.hid hn76
      obtain ⟨n77, hn77⟩ : ∃ x, (n71 && n76) = x := ⟨_, rfl⟩
      replace hn77 := Lib.hid hn77
      obtain ⟨n78, hn78⟩ : ∃ x, (n64 || n77) = x := ⟨_, rfl⟩
      replace hn78 := Lib.hid hn78
      obtain ⟨n81, hn81⟩ : ∃ x, (!mm) = x := ⟨_, rfl⟩
      replace hn81 := Lib.hid hn81
      obtain ⟨n84, hn84⟩ : ∃ x, (decide (fi < 0)) = x := ⟨_, rfl⟩
      replace hn84 := Lib.hid hn84
      obtain ⟨n85, hn85⟩ : ∃ x, (n81 && n84) = x := ⟨_, rfl⟩
      replace hn85 := Lib.hid hn85
      obtain ⟨n88, hn88⟩ : ∃ x, (!(fy == (-1))) = x := ⟨_, rfl⟩
      replace hn88 := Lib.hid hn88
      obtain ⟨n89, hn89⟩ : ∃ x, (n85 && n88) = x := ⟨_, rfl⟩
      replace hn89 := Lib.hid hn89
      obtain ⟨n90, hn90⟩ : ∃ x, (n78 || n89) = x := ⟨_, rfl⟩
      replace hn90 := Lib.hid hn90
      refine region_seq 50 (VG w10.heap.size [.val (.int .i64 fi), .val (.bool n42), .val (.bool n42), .val (if n42 = true then .int .i64 fx else undef), .val (if n42 = true then .int .i64 fi else undef), .val (if n42 = true then .bool n46 else undef), .val (.bool n47), .val (.bool n47), .val (if n47 = false then .int .i64 fi else undef), .val (if n47 = false then .bool n50 else undef), .val (if n47 = false then .bool n50 else undef), .val (if n47 = false then (if n50 = true then .int .i64 fx else undef) else undef), .val (if n47 = false then (if n50 = true then .bool n53 else undef) else undef), .val (if n47 = false then (if n50 = true then .bool mm else undef) else undef), .val (if n47 = false then (if n50 = true then .bool n55 else undef) else undef), .val (if n47 = false then .bool n56 else undef), .val (.bool n57), .val (.bool n57), .val (if n57 = false then .bool mm else undef), .val (if n57 = false then .bool mm else undef), .val (if n57 = false then (if mm = true then .int .i64 fy else undef) else undef), .val (if n57 = false then (if mm = true then .bool n62 else undef) else undef), .val (if n57 = false then .bool n63 else undef), .val (.bool n64), .val (.bool n64), .val (if n64 = false then .bool mm else undef), .val (if n64 = false then .bool n67 else undef), .val (if n64 = false then .bool n67 else undef), .val (if n64 = false then (if n67 = true then .int .i64 fi else undef) else undef), .val (if n64 = false then (if n67 = true then .bool n70 else undef) else undef), .val (if n64 = false then .bool n71 else undef), .val (if n64 = false then .bool n71 else undef), .val (if n64 = false then (if n71 = true then .int .i64 fy else undef) else undef), .val (if n64 = false then (if n71 = true then .int .i64 fi else undef) else undef), .val (if n64 = false then (if n71 = true then .int .i64 (fi + 1) else undef) else undef), .val (if n64 = false then (if n71 = true then .bool n76 else undef) else undef), .val (if n64 = false then .bool n77 else undef), .val (.bool n78), .val (.bool n78), .val (if n78 = false then .bool mm else undef), .val (if n78 = false then .bool n81 else undef), .val (if n78 = false then .bool n81 else undef), .val (if n78 = false then (if n81 = true then .int .i64 fi else undef) else undef), .val (if n78 = false then (if n81 = true then .bool n84 else undef) else undef), .val (if n78 = false then .bool n85 else undef), .val (if n78 = false then .bool n85 else undef), .val (if n78 = false then (if n85 = true then .int .i64 fy else undef) else undef), .val (if n78 = false then (if n85 = true then .bool n88 else undef) else undef), .val (if n78 = false then .bool n89 else undef), .val (.bool n90)]) (BS w10) (by kernel_rfl) (Below.refl _ _) ⟨?_, ?_, ?_, ?_, ?_, ?_, ?_, ?_, ?_, ?_, ?_, ?_, ?_, ?_, ?_, ?_, ?_, ?_, ?_, ?_, ?_, ?_, ?_, ?_, ?_, ?_, ?_, ?_, ?_, ?_, ?_, ?_, ?_, ?_, ?_, ?_, ?_, ?_, ?_, ?_, ?_, ?_, ?_, ?_, ?_, ?_, ?_, ?_, ?_, ?_, trivial⟩ ?_
      · go_light; intro listed a' w' hs hS hun hdep
        have e9 : a'.eval (.tmp 9) = .int .i64 fi := (hs.out 9 (by kernel_rfl)).trans (rfl)
        exact g_val (.int .i64 fi) hS rfl (op_move rfl e9) rfl
      · go_light; intro listed a' w' hs hS hun hdep
        have e41 : a'.eval (.tmp 41) = (.int .i64 fi) := hs.eval 0 _ 41 rfl (hdep ⟨0, .data⟩ (by simp) rfl) rfl
        refine g_val (.bool n42) hS rfl ?_ rfl
        rw [← hn42.out]
        have hcn := BigFrame.eval_const a'; have hfn := BigFrame.eval_func a'; clear hs hdep; generalize a'.eval = ev at *; go_simp; try rfl
      · go_light; intro listed a' w' hs hS hun hdep
        have e42 : a'.eval (.tmp 42) = (.bool n42) := hs.eval 1 _ 42 rfl (hdep ⟨1, .data⟩ (by simp) rfl) rfl
        exact g_val (.bool n42) hS rfl (op_move rfl e42) rfl
      · go_light; intro listed a' w' hs hS hun hdep
        have eg : a'.eval (.tmp 43) = (.bool n42) := hs.eval 2 _ 43 rfl (hdep ⟨2, .guard⟩ (by simp) rfl) rfl
        have e11 : a'.eval (.tmp 11) = .int .i64 fx := (hs.out 11 (by kernel_rfl)).trans (rfl)
        cases n42
        · exact g_not hS (wanted_no rfl rfl rfl eg (by decide)) rfl
        · exact g_val (.int .i64 fx) hS (wanted_yes rfl rfl rfl eg) (op_move rfl e11) rfl
      · go_light; intro listed a' w' hs hS hun hdep
        have eg : a'.eval (.tmp 43) = (.bool n42) := hs.eval 2 _ 43 rfl (hdep ⟨2, .guard⟩ (by simp) rfl) rfl
        have e9 : a'.eval (.tmp 9) = .int .i64 fi := (hs.out 9 (by kernel_rfl)).trans (rfl)
        cases n42
        · exact g_not hS (wanted_no rfl rfl rfl eg (by decide)) rfl
        · exact g_val (.int .i64 fi) hS (wanted_yes rfl rfl rfl eg) (op_move rfl e9) rfl
      · go_light; intro listed a' w' hs hS hun hdep
        have eg : a'.eval (.tmp 43) = (.bool n42) := hs.eval 2 _ 43 rfl (hdep ⟨2, .guard⟩ (by simp) rfl) rfl
        have e44 : a'.eval (.tmp 44) = (if n42 = true then .int .i64 fx else undef) := hs.eval 3 _ 44 rfl (hdep ⟨3, .data⟩ (by simp) rfl) rfl
        have e45 : a'.eval (.tmp 45) = (if n42 = true then .int .i64 fi else undef) := hs.eval 4 _ 45 rfl (hdep ⟨4, .data⟩ (by simp) rfl) rfl
        cases n42
        · exact g_not hS (wanted_no rfl rfl rfl eg (by decide)) rfl
        · replace e44 := e44.trans (if_pos rfl)
          replace e45 := e45.trans (if_pos rfl)
          refine g_val (.bool n46) hS (wanted_yes rfl rfl rfl eg) ?_ rfl
          rw [← hn46.out]
          have hcn := BigFrame.eval_const a'; have hfn := BigFrame.eval_func a'; clear hs hdep; generalize a'.eval = ev at *; go_simp; try rfl
      · go_light; intro listed a' w' hs hS hun hdep
        have e43 : a'.eval (.tmp 43) = (.bool n42) := hs.eval 2 _ 43 rfl (hdep ⟨2, .data⟩ (by simp) rfl) rfl
        have e46 : a'.eval (.tmp 46) = (if n42 = true then .bool n46 else undef) := hs.eval 5 _ 46 rfl (hdep ⟨5, .data⟩ (by simp) rfl) rfl
        refine g_val (.bool n47) hS rfl ?_ rfl
        cases n42
        · replace e46 := e46.trans (if_neg (by decide))
          exact (op_pick_f rfl e43 (BigFrame.eval_const a' _)).trans (by rw [← hn47.out]; first | rfl | simp)
        · replace e46 := e46.trans (if_pos rfl)
          exact (op_pick_t rfl e43 e46).trans (by rw [← hn47.out]; first | rfl | simp)
      · go_light; intro listed a' w' hs hS hun hdep
        have e47 : a'.eval (.tmp 47) = (.bool n47) := hs.eval 6 _ 47 rfl (hdep ⟨6, .data⟩ (by simp) rfl) rfl
        exact g_val (.bool n47) hS rfl (op_move rfl e47) rfl
      · go_light; intro listed a' w' hs hS hun hdep
        have eg : a'.eval (.tmp 48) = (.bool n47) := hs.eval 7 _ 48 rfl (hdep ⟨7, .guard⟩ (by simp) rfl) rfl
        have e9 : a'.eval (.tmp 9) = .int .i64 fi := (hs.out 9 (by kernel_rfl)).trans (rfl)
        cases n47
        · exact g_val (.int .i64 fi) hS (wanted_yes rfl rfl rfl eg) (op_move rfl e9) rfl
        · exact g_not hS (wanted_no rfl rfl rfl eg (by decide)) rfl
      · go_light; intro listed a' w' hs hS hun hdep
        have eg : a'.eval (.tmp 48) = (.bool n47) := hs.eval 7 _ 48 rfl (hdep ⟨7, .guard⟩ (by simp) rfl) rfl
        have e49 : a'.eval (.tmp 49) = (if n47 = false then .int .i64 fi else undef) := hs.eval 8 _ 49 rfl (hdep ⟨8, .data⟩ (by simp) rfl) rfl
        cases n47
        · replace e49 := e49.trans (if_pos rfl)
          refine g_val (.bool n50) hS (wanted_yes rfl rfl rfl eg) ?_ rfl
          rw [← hn50.out]
          have hcn := BigFrame.eval_const a'; have hfn := BigFrame.eval_func a'; clear hs hdep; generalize a'.eval = ev at *; go_simp; try rfl
        · exact g_not hS (wanted_no rfl rfl rfl eg (by decide)) rfl
      · go_light; intro listed a' w' hs hS hun hdep
        have eg : a'.eval (.tmp 48) = (.bool n47) := hs.eval 7 _ 48 rfl (hdep ⟨7, .guard⟩ (by simp) rfl) rfl
        have e50 : a'.eval (.tmp 50) = (if n47 = false then .bool n50 else undef) := hs.eval 9 _ 50 rfl (hdep ⟨9, .data⟩ (by simp) rfl) rfl
        cases n47
        · replace e50 := e50.trans (if_pos rfl)
          exact g_val (.bool n50) hS (wanted_yes rfl rfl rfl eg) (op_move rfl e50) rfl
        · exact g_not hS (wanted_no rfl rfl rfl eg (by decide)) rfl
      · go_light; intro listed a' w' hs hS hun hdep
        have eg : a'.eval (.tmp 51) = (if n47 = false then .bool n50 else undef) := hs.eval 10 _ 51 rfl (hdep ⟨10, .guard⟩ (by simp) rfl) rfl
        have e11 : a'.eval (.tmp 11) = .int .i64 fx := (hs.out 11 (by kernel_rfl)).trans (rfl)
        cases n47
        · replace eg := eg.trans (if_pos rfl)
          cases n50
          · exact g_not hS (wanted_no rfl rfl rfl eg (by decide)) rfl
          · exact g_val (.int .i64 fx) hS (wanted_yes rfl rfl rfl eg) (op_move rfl e11) rfl
        · replace eg := eg.trans (if_neg (by decide))
          exact g_not hS (wanted_un rfl rfl rfl eg) rfl
      · go_light; intro listed a' w' hs hS hun hdep
        have eg : a'.eval (.tmp 51) = (if n47 = false then .bool n50 else undef) := hs.eval 10 _ 51 rfl (hdep ⟨10, .guard⟩ (by simp) rfl) rfl
        have e52 : a'.eval (.tmp 52) = (if n47 = false then (if n50 = true then .int .i64 fx else undef) else undef) := hs.eval 11 _ 52 rfl (hdep ⟨11, .data⟩ (by simp) rfl) rfl
        cases n47
        · replace eg := eg.trans (if_pos rfl)
          cases n50
          · exact g_not hS (wanted_no rfl rfl rfl eg (by decide)) rfl
          · replace e52 := e52.trans (if_pos rfl)
            replace e52 := e52.trans (if_pos rfl)
            refine g_val (.bool n53) hS (wanted_yes rfl rfl rfl eg) ?_ rfl
            rw [← hn53.out]
            have hcn := BigFrame.eval_const a'; have hfn := BigFrame.eval_func a'; clear hs hdep; generalize a'.eval = ev at *; go_simp; try rfl
        · replace eg := eg.trans (if_neg (by decide))
          exact g_not hS (wanted_un rfl rfl rfl eg) rfl
      · go_light; intro listed a' w' hs hS hun hdep
        have eg : a'.eval (.tmp 51) = (if n47 = false then .bool n50 else undef) := hs.eval 10 _ 51 rfl (hdep ⟨10, .guard⟩ (by simp) rfl) rfl
        have e10 : a'.eval (.tmp 10) = .bool mm := (hs.out 10 (by kernel_rfl)).trans (rfl)
        cases n47
        · replace eg := eg.trans (if_pos rfl)
          cases n50
          · exact g_not hS (wanted_no rfl rfl rfl eg (by decide)) rfl
          · exact g_val (.bool mm) hS (wanted_yes rfl rfl rfl eg) (op_move rfl e10) rfl
        · replace eg := eg.trans (if_neg (by decide))
          exact g_not hS (wanted_un rfl rfl rfl eg) rfl
      · go_light; intro listed a' w' hs hS hun hdep
        have eg : a'.eval (.tmp 51) = (if n47 = false then .bool n50 else undef) := hs.eval 10 _ 51 rfl (hdep ⟨10, .guard⟩ (by simp) rfl) rfl
        have e53 : a'.eval (.tmp 53) = (if n47 = false then (if n50 = true then .bool n53 else undef) else undef) := hs.eval 12 _ 53 rfl (hdep ⟨12, .data⟩ (by simp) rfl) rfl
        have e54 : a'.eval (.tmp 54) = (if n47 = false then (if n50 = true then .bool mm else undef) else undef) := hs.eval 13 _ 54 rfl (hdep ⟨13, .data⟩ (by simp) rfl) rfl
        cases n47
        · replace eg := eg.trans (if_pos rfl)
          cases n50
          · exact g_not hS (wanted_no rfl rfl rfl eg (by decide)) rfl
          · replace e53 := e53.trans (if_pos rfl)
            replace e53 := e53.trans (if_pos rfl)
            replace e54 := e54.trans (if_pos rfl)
            replace e54 := e54.trans (if_pos rfl)
            exact g_val (.bool n55) hS (wanted_yes rfl rfl rfl eg) ((op_neqb rfl e53 e54 Try.underlying4).trans (by rw [hn55.out])) rfl
        · replace eg := eg.trans (if_neg (by decide))
          exact g_not hS (wanted_un rfl rfl rfl eg) rfl
      · go_light; intro listed a' w' hs hS hun hdep
        have eg : a'.eval (.tmp 48) = (.bool n47) := hs.eval 7 _ 48 rfl (hdep ⟨7, .guard⟩ (by simp) rfl) rfl
        have e51 : a'.eval (.tmp 51) = (if n47 = false then .bool n50 else undef) := hs.eval 10 _ 51 rfl (hdep ⟨10, .data⟩ (by simp) rfl) rfl
        have e55 : a'.eval (.tmp 55) = (if n47 = false then (if n50 = true then .bool n55 else undef) else undef) := hs.eval 14 _ 55 rfl (hdep ⟨14, .data⟩ (by simp) rfl) rfl
        cases n47
        · replace e51 := e51.trans (if_pos rfl)
          replace e55 := e55.trans (if_pos rfl)
          refine g_val (.bool n56) hS (wanted_yes rfl rfl rfl eg) ?_ rfl
          cases n50
          · replace e55 := e55.trans (if_neg (by decide))
            exact (op_pick_f rfl e51 (BigFrame.eval_const a' _)).trans (by rw [← hn56.out]; first | rfl | simp)
          · replace e55 := e55.trans (if_pos rfl)
            exact (op_pick_t rfl e51 e55).trans (by rw [← hn56.out]; first | rfl | simp)
        · exact g_not hS (wanted_no rfl rfl rfl eg (by decide)) rfl
      · go_light; intro listed a' w' hs hS hun hdep
        have e48 : a'.eval (.tmp 48) = (.bool n47) := hs.eval 7 _ 48 rfl (hdep ⟨7, .data⟩ (by simp) rfl) rfl
        have e56 : a'.eval (.tmp 56) = (if n47 = false then .bool n56 else undef) := hs.eval 15 _ 56 rfl (hdep ⟨15, .data⟩ (by simp) rfl) rfl
        refine g_val (.bool n57) hS rfl ?_ rfl
        cases n47
        · replace e56 := e56.trans (if_pos rfl)
          exact (op_pick_f rfl e48 e56).trans (by rw [← hn57.out]; first | rfl | simp)
        · replace e56 := e56.trans (if_neg (by decide))
          exact (op_pick_t rfl e48 (BigFrame.eval_const a' _)).trans (by rw [← hn57.out]; first | rfl | simp)
      · go_light; intro listed a' w' hs hS hun hdep
        have e57 : a'.eval (.tmp 57) = (.bool n57) := hs.eval 16 _ 57 rfl (hdep ⟨16, .data⟩ (by simp) rfl) rfl
        exact g_val (.bool n57) hS rfl (op_move rfl e57) rfl
      · go_light; intro listed a' w' hs hS hun hdep
        have eg : a'.eval (.tmp 58) = (.bool n57) := hs.eval 17 _ 58 rfl (hdep ⟨17, .guard⟩ (by simp) rfl) rfl
        have e10 : a'.eval (.tmp 10) = .bool mm := (hs.out 10 (by kernel_rfl)).trans (rfl)
        cases n57
        · exact g_val (.bool mm) hS (wanted_yes rfl rfl rfl eg) (op_move rfl e10) rfl
        · exact g_not hS (wanted_no rfl rfl rfl eg (by decide)) rfl
      · go_light; intro listed a' w' hs hS hun hdep
        have eg : a'.eval (.tmp 58) = (.bool n57) := hs.eval 17 _ 58 rfl (hdep ⟨17, .guard⟩ (by simp) rfl) rfl
        have e59 : a'.eval (.tmp 59) = (if n57 = false then .bool mm else undef) := hs.eval 18 _ 59 rfl (hdep ⟨18, .data⟩ (by simp) rfl) rfl
        cases n57
        · replace e59 := e59.trans (if_pos rfl)
          exact g_val (.bool mm) hS (wanted_yes rfl rfl rfl eg) (op_move rfl e59) rfl
        · exact g_not hS (wanted_no rfl rfl rfl eg (by decide)) rfl
      · go_light; intro listed a' w' hs hS hun hdep
        have eg : a'.eval (.tmp 60) = (if n57 = false then .bool mm else undef) := hs.eval 19 _ 60 rfl (hdep ⟨19, .guard⟩ (by simp) rfl) rfl
        have e12 : a'.eval (.tmp 12) = .int .i64 fy := (hs.out 12 (by kernel_rfl)).trans (rfl)
        cases n57
        · replace eg := eg.trans (if_pos rfl)
          cases mm
          · exact g_not hS (wanted_no rfl rfl rfl eg (by decide)) rfl
          · exact g_val (.int .i64 fy) hS (wanted_yes rfl rfl rfl eg) (op_move rfl e12) rfl
        · replace eg := eg.trans (if_neg (by decide))
          exact g_not hS (wanted_un rfl rfl rfl eg) rfl
      · go_light; intro listed a' w' hs hS hun hdep
        have eg : a'.eval (.tmp 60) = (if n57 = false then .bool mm else undef) := hs.eval 19 _ 60 rfl (hdep ⟨19, .guard⟩ (by simp) rfl) rfl
        have e61 : a'.eval (.tmp 61) = (if n57 = false then (if mm = true then .int .i64 fy else undef) else undef) := hs.eval 20 _ 61 rfl (hdep ⟨20, .data⟩ (by simp) rfl) rfl
        cases n57
        · replace eg := eg.trans (if_pos rfl)
          cases mm
          · exact g_not hS (wanted_no rfl rfl rfl eg (by decide)) rfl
          · replace e61 := e61.trans (if_pos rfl)
            replace e61 := e61.trans (if_pos rfl)
            refine g_val (.bool n62) hS (wanted_yes rfl rfl rfl eg) ?_ rfl
            rw [← hn62.out]
            have hcn := BigFrame.eval_const a'; have hfn := BigFrame.eval_func a'; clear hs hdep; generalize a'.eval = ev at *; go_simp; try rfl
        · replace eg := eg.trans (if_neg (by decide))
          exact g_not hS (wanted_un rfl rfl rfl eg) rfl
      · go_light; intro listed a' w' hs hS hun hdep
        have eg : a'.eval (.tmp 58) = (.bool n57) := hs.eval 17 _ 58 rfl (hdep ⟨17, .guard⟩ (by simp) rfl) rfl
        have e60 : a'.eval (.tmp 60) = (if n57 = false then .bool mm else undef) := hs.eval 19 _ 60 rfl (hdep ⟨19, .data⟩ (by simp) rfl) rfl
        have e62 : a'.eval (.tmp 62) = (if n57 = false then (if mm = true then .bool n62 else undef) else undef) := hs.eval 21 _ 62 rfl (hdep ⟨21, .data⟩ (by simp) rfl) rfl
        cases n57
        · replace e60 := e60.trans (if_pos rfl)
          replace e62 := e62.trans (if_pos rfl)
          refine g_val (.bool n63) hS (wanted_yes rfl rfl rfl eg) ?_ rfl
          cases mm
          · replace e62 := e62.trans (if_neg (by decide))
            exact (op_pick_f rfl e60 (BigFrame.eval_const a' _)).trans (by rw [← hn63.out]; first | rfl | simp)
          · replace e62 := e62.trans (if_pos rfl)
            exact (op_pick_t rfl e60 e62).trans (by rw [← hn63.out]; first | rfl | simp)
        · exact g_not hS (wanted_no rfl rfl rfl eg (by decide)) rfl
      · go_light; intro listed a' w' hs hS hun hdep
        have e58 : a'.eval (.tmp 58) = (.bool n57) := hs.eval 17 _ 58 rfl (hdep ⟨17, .data⟩ (by simp) rfl) rfl
        have e63 : a'.eval (.tmp 63) = (if n57 = false then .bool n63 else undef) := hs.eval 22 _ 63 rfl (hdep ⟨22, .data⟩ (by simp) rfl) rfl
        refine g_val (.bool n64) hS rfl ?_ rfl
        cases n57
        · replace e63 := e63.trans (if_pos rfl)
          exact (op_pick_f rfl e58 e63).trans (by rw [← hn64.out]; first | rfl | simp)
        · replace e63 := e63.trans (if_neg (by decide))
          exact (op_pick_t rfl e58 (BigFrame.eval_const a' _)).trans (by rw [← hn64.out]; first | rfl | simp)
      · go_light; intro listed a' w' hs hS hun hdep
        have e64 : a'.eval (.tmp 64) = (.bool n64) := hs.eval 23 _ 64 rfl (hdep ⟨23, .data⟩ (by simp) rfl) rfl
        exact g_val (.bool n64) hS rfl (op_move rfl e64) rfl
      · go_light; intro listed a' w' hs hS hun hdep
        have eg : a'.eval (.tmp 65) = (.bool n64) := hs.eval 24 _ 65 rfl (hdep ⟨24, .guard⟩ (by simp) rfl) rfl
        have e10 : a'.eval (.tmp 10) = .bool mm := (hs.out 10 (by kernel_rfl)).trans (rfl)
        cases n64
        · exact g_val (.bool mm) hS (wanted_yes rfl rfl rfl eg) (op_move rfl e10) rfl
        · exact g_not hS (wanted_no rfl rfl rfl eg (by decide)) rfl
      · go_light; intro listed a' w' hs hS hun hdep
        have eg : a'.eval (.tmp 65) = (.bool n64) := hs.eval 24 _ 65 rfl (hdep ⟨24, .guard⟩ (by simp) rfl) rfl
        have e66 : a'.eval (.tmp 66) = (if n64 = false then .bool mm else undef) := hs.eval 25 _ 66 rfl (hdep ⟨25, .data⟩ (by simp) rfl) rfl
        cases n64
        · replace e66 := e66.trans (if_pos rfl)
          exact g_val (.bool n67) hS (wanted_yes rfl rfl rfl eg) ((op_not rfl e66).trans (by rw [hn67.out])) rfl
        · exact g_not hS (wanted_no rfl rfl rfl eg (by decide)) rfl
      · go_light; intro listed a' w' hs hS hun hdep
        have eg : a'.eval (.tmp 65) = (.bool n64) := hs.eval 24 _ 65 rfl (hdep ⟨24, .guard⟩ (by simp) rfl) rfl
        have e67 : a'.eval (.tmp 67) = (if n64 = false then .bool n67 else undef) := hs.eval 26 _ 67 rfl (hdep ⟨26, .data⟩ (by simp) rfl) rfl
        cases n64
        · replace e67 := e67.trans (if_pos rfl)
          exact g_val (.bool n67) hS (wanted_yes rfl rfl rfl eg) (op_move rfl e67) rfl
        · exact g_not hS (wanted_no rfl rfl rfl eg (by decide)) rfl
      · go_light; intro listed a' w' hs hS hun hdep
        have eg : a'.eval (.tmp 68) = (if n64 = false then .bool n67 else undef) := hs.eval 27 _ 68 rfl (hdep ⟨27, .guard⟩ (by simp) rfl) rfl
        have e9 : a'.eval (.tmp 9) = .int .i64 fi := (hs.out 9 (by kernel_rfl)).trans (rfl)
        cases n64
        · replace eg := eg.trans (if_pos rfl)
          cases n67
          · exact g_not hS (wanted_no rfl rfl rfl eg (by decide)) rfl
          · exact g_val (.int .i64 fi) hS (wanted_yes rfl rfl rfl eg) (op_move rfl e9) rfl
        · replace eg := eg.trans (if_neg (by decide))
          exact g_not hS (wanted_un rfl rfl rfl eg) rfl
      · go_light; intro listed a' w' hs hS hun hdep
        have eg : a'.eval (.tmp 68) = (if n64 = false then .bool n67 else undef) := hs.eval 27 _ 68 rfl (hdep ⟨27, .guard⟩ (by simp) rfl) rfl
        have e69 : a'.eval (.tmp 69) = (if n64 = false then (if n67 = true then .int .i64 fi else undef) else undef) := hs.eval 28 _ 69 rfl (hdep ⟨28, .data⟩ (by simp) rfl) rfl
        cases n64
        · replace eg := eg.trans (if_pos rfl)
          cases n67
          · exact g_not hS (wanted_no rfl rfl rfl eg (by decide)) rfl
          · replace e69 := e69.trans (if_pos rfl)
            replace e69 := e69.trans (if_pos rfl)
            refine g_val (.bool n70) hS (wanted_yes rfl rfl rfl eg) ?_ rfl
            rw [← hn70.out]
            have hcn := BigFrame.eval_const a'; have hfn := BigFrame.eval_func a'; clear hs hdep; generalize a'.eval = ev at *; go_simp; try rfl
        · replace eg := eg.trans (if_neg (by decide))
          exact g_not hS (wanted_un rfl rfl rfl eg) rfl
      · go_light; intro listed a' w' hs hS hun hdep
        have eg : a'.eval (.tmp 65) = (.bool n64) := hs.eval 24 _ 65 rfl (hdep ⟨24, .guard⟩ (by simp) rfl) rfl
        have e68 : a'.eval (.tmp 68) = (if n64 = false then .bool n67 else undef) := hs.eval 27 _ 68 rfl (hdep ⟨27, .data⟩ (by simp) rfl) rfl
        have e70 : a'.eval (.tmp 70) = (if n64 = false then (if n67 = true then .bool n70 else undef) else undef) := hs.eval 29 _ 70 rfl (hdep ⟨29, .data⟩ (by simp) rfl) rfl
        cases n64
        · replace e68 := e68.trans (if_pos rfl)
          replace e70 := e70.trans (if_pos rfl)
          refine g_val (.bool n71) hS (wanted_yes rfl rfl rfl eg) ?_ rfl
          cases n67
          · replace e70 := e70.trans (if_neg (by decide))
            exact (op_pick_f rfl e68 (BigFrame.eval_const a' _)).trans (by rw [← hn71.out]; first | rfl | simp)
          · replace e70 := e70.trans (if_pos rfl)
            exact (op_pick_t rfl e68 e70).trans (by rw [← hn71.out]; first | rfl | simp)
        · exact g_not hS (wanted_no rfl rfl rfl eg (by decide)) rfl
      · go_light; intro listed a' w' hs hS hun hdep
        have eg : a'.eval (.tmp 65) = (.bool n64) := hs.eval 24 _ 65 rfl (hdep ⟨24, .guard⟩ (by simp) rfl) rfl
        have e71 : a'.eval (.tmp 71) = (if n64 = false then .bool n71 else undef) := hs.eval 30 _ 71 rfl (hdep ⟨30, .data⟩ (by simp) rfl) rfl
        cases n64
        · replace e71 := e71.trans (if_pos rfl)
          exact g_val (.bool n71) hS (wanted_yes rfl rfl rfl eg) (op_move rfl e71) rfl
        · exact g_not hS (wanted_no rfl rfl rfl eg (by decide)) rfl
      · go_light; intro listed a' w' hs hS hun hdep
        have eg : a'.eval (.tmp 72) = (if n64 = false then .bool n71 else undef) := hs.eval 31 _ 72 rfl (hdep ⟨31, .guard⟩ (by simp) rfl) rfl
        have e12 : a'.eval (.tmp 12) = .int .i64 fy := (hs.out 12 (by kernel_rfl)).trans (rfl)
        cases n64
        · replace eg := eg.trans (if_pos rfl)
          cases n71
          · exact g_not hS (wanted_no rfl rfl rfl eg (by decide)) rfl
          · exact g_val (.int .i64 fy) hS (wanted_yes rfl rfl rfl eg) (op_move rfl e12) rfl
        · replace eg := eg.trans (if_neg (by decide))
          exact g_not hS (wanted_un rfl rfl rfl eg) rfl
      · go_light; intro listed a' w' hs hS hun hdep
        have eg : a'.eval (.tmp 72) = (if n64 = false then .bool n71 else undef) := hs.eval 31 _ 72 rfl (hdep ⟨31, .guard⟩ (by simp) rfl) rfl
        have e9 : a'.eval (.tmp 9) = .int .i64 fi := (hs.out 9 (by kernel_rfl)).trans (rfl)
        cases n64
        · replace eg := eg.trans (if_pos rfl)
          cases n71
          · exact g_not hS (wanted_no rfl rfl rfl eg (by decide)) rfl
          · exact g_val (.int .i64 fi) hS (wanted_yes rfl rfl rfl eg) (op_move rfl e9) rfl
        · replace eg := eg.trans (if_neg (by decide))
          exact g_not hS (wanted_un rfl rfl rfl eg) rfl
      · go_light; intro listed a' w' hs hS hun hdep
        have eg : a'.eval (.tmp 72) = (if n64 = false then .bool n71 else undef) := hs.eval 31 _ 72 rfl (hdep ⟨31, .guard⟩ (by simp) rfl) rfl
        have e74 : a'.eval (.tmp 74) = (if n64 = false then (if n71 = true then .int .i64 fi else undef) else undef) := hs.eval 33 _ 74 rfl (hdep ⟨33, .data⟩ (by simp) rfl) rfl
        cases n64
        · replace eg := eg.trans (if_pos rfl)
          cases n71
          · exact g_not hS (wanted_no rfl rfl rfl eg (by decide)) rfl
          · replace e74 := e74.trans (if_pos rfl)
            replace e74 := e74.trans (if_pos rfl)
            refine g_val (.int .i64 (fi + 1)) hS (wanted_yes rfl rfl rfl eg) ?_ rfl
            have hcn := BigFrame.eval_const a'; have hfn := BigFrame.eval_func a'; clear hs hdep; generalize a'.eval = ev at *; go_simp; try exact IntWalk.i64_in _ (by omega)
        · replace eg := eg.trans (if_neg (by decide))
          exact g_not hS (wanted_un rfl rfl rfl eg) rfl
      · go_light; intro listed a' w' hs hS hun hdep
        have eg : a'.eval (.tmp 72) = (if n64 = false then .bool n71 else undef) := hs.eval 31 _ 72 rfl (hdep ⟨31, .guard⟩ (by simp) rfl) rfl
        have e73 : a'.eval (.tmp 73) = (if n64 = false then (if n71 = true then .int .i64 fy else undef) else undef) := hs.eval 32 _ 73 rfl (hdep ⟨32, .data⟩ (by simp) rfl) rfl
        have e75 : a'.eval (.tmp 75) = (if n64 = false then (if n71 = true then .int .i64 (fi + 1) else undef) else undef) := hs.eval 34 _ 75 rfl (hdep ⟨34, .data⟩ (by simp) rfl) rfl
        cases n64
        · replace eg := eg.trans (if_pos rfl)
          cases n71
          · exact g_not hS (wanted_no rfl rfl rfl eg (by decide)) rfl
          · replace e73 := e73.trans (if_pos rfl)
            replace e73 := e73.trans (if_pos rfl)
            replace e75 := e75.trans (if_pos rfl)
            replace e75 := e75.trans (if_pos rfl)
            refine g_val (.bool n76) hS (wanted_yes rfl rfl rfl eg) ?_ rfl
            rw [← hn76.out]
            have hcn := BigFrame.eval_const a'; have hfn := BigFrame.eval_func a'; clear hs hdep; generalize a'.eval = ev at *; go_simp; try rfl
        · replace eg := eg.trans (if_neg (by decide))
          exact g_not hS (wanted_un rfl rfl rfl eg) rfl
      · go_light; intro listed a' w' hs hS hun hdep
        have eg : a'.eval (.tmp 65) = (.bool n64) := hs.eval 24 _ 65 rfl (hdep ⟨24, .guard⟩ (by simp) rfl) rfl
        have e72 : a'.eval (.tmp 72) = (if n64 = false then .bool n71 else undef) := hs.eval 31 _ 72 rfl (hdep ⟨31, .data⟩ (by simp) rfl) rfl
        have e76 : a'.eval (.tmp 76) = (if n64 = false then (if n71 = true then .bool n76 else undef) else undef) := hs.eval 35 _ 76 rfl (hdep ⟨35, .data⟩ (by simp) rfl) rfl
        cases n64
        · replace e72 := e72.trans (if_pos rfl)
          replace e76 := e76.trans (if_pos rfl)
          refine g_val (.bool n77) hS (wanted_yes rfl rfl rfl eg) ?_ rfl
          cases n71
          · replace e76 := e76.trans (if_neg (by decide))
            exact (op_pick_f rfl e72 (BigFrame.eval_const a' _)).trans (by rw [← hn77.out]; first | rfl | simp)
          · replace e76 := e76.trans (if_pos rfl)
            exact (op_pick_t rfl e72 e76).trans (by rw [← hn77.out]; first | rfl | simp)
        · exact g_not hS (wanted_no rfl rfl rfl eg (by decide)) rfl
      · go_light; intro listed a' w' hs hS hun hdep
        have e65 : a'.eval (.tmp 65) = (.bool n64) := hs.eval 24 _ 65 rfl (hdep ⟨24, .data⟩ (by simp) rfl) rfl
        have e77 : a'.eval (.tmp 77) = (if n64 = false then .bool n77 else undef) := hs.eval 36 _ 77 rfl (hdep ⟨36, .data⟩ (by simp) rfl) rfl
        refine g_val (.bool n78) hS rfl ?_ rfl
        cases n64
        · replace e77 := e77.trans (if_pos rfl)
          exact (op_pick_f rfl e65 e77).trans (by rw [← hn78.out]; first | rfl | simp)
        · replace e77 := e77.trans (if_neg (by decide))
          exact (op_pick_t rfl e65 (BigFrame.eval_const a' _)).trans (by rw [← hn78.out]; first | rfl | simp)
      · go_light; intro listed a' w' hs hS hun hdep
        have e78 : a'.eval (.tmp 78) = (.bool n78) := hs.eval 37 _ 78 rfl (hdep ⟨37, .data⟩ (by simp) rfl) rfl
        exact g_val (.bool n78) hS rfl (op_move rfl e78) rfl
      · go_light; intro listed a' w' hs hS hun hdep
        have eg : a'.eval (.tmp 79) = (.bool n78) := hs.eval 38 _ 79 rfl (hdep ⟨38, .guard⟩ (by simp) rfl) rfl
        have e10 : a'.eval (.tmp 10) = .bool mm := (hs.out 10 (by kernel_rfl)).trans (rfl)
        cases n78
        · exact g_val (.bool mm) hS (wanted_yes rfl rfl rfl eg) (op_move rfl e10) rfl
        · exact g_not hS (wanted_no rfl rfl rfl eg (by decide)) rfl
      · go_light; intro listed a' w' hs hS hun hdep
        have eg : a'.eval (.tmp 79) = (.bool n78) := hs.eval 38 _ 79 rfl (hdep ⟨38, .guard⟩ (by simp) rfl) rfl
        have e80 : a'.eval (.tmp 80) = (if n78 = false then .bool mm else undef) := hs.eval 39 _ 80 rfl (hdep ⟨39, .data⟩ (by simp) rfl) rfl
        cases n78
        · replace e80 := e80.trans (if_pos rfl)
          exact g_val (.bool n81) hS (wanted_yes rfl rfl rfl eg) ((op_not rfl e80).trans (by rw [hn81.out])) rfl
        · exact g_not hS (wanted_no rfl rfl rfl eg (by decide)) rfl
      · go_light; intro listed a' w' hs hS hun hdep
        have eg : a'.eval (.tmp 79) = (.bool n78) := hs.eval 38 _ 79 rfl (hdep ⟨38, .guard⟩ (by simp) rfl) rfl
        have e81 : a'.eval (.tmp 81) = (if n78 = false then .bool n81 else undef) := hs.eval 40 _ 81 rfl (hdep ⟨40, .data⟩ (by simp) rfl) rfl
        cases n78
        · replace e81 := e81.trans (if_pos rfl)
          exact g_val (.bool n81) hS (wanted_yes rfl rfl rfl eg) (op_move rfl e81) rfl
        · exact g_not hS (wanted_no rfl rfl rfl eg (by decide)) rfl
      · go_light; intro listed a' w' hs hS hun hdep
        have eg : a'.eval (.tmp 82) = (if n78 = false then .bool n81 else undef) := hs.eval 41 _ 82 rfl (hdep ⟨41, .guard⟩ (by simp) rfl) rfl
        have e9 : a'.eval (.tmp 9) = .int .i64 fi := (hs.out 9 (by kernel_rfl)).trans (rfl)
        cases n78
        · replace eg := eg.trans (if_pos rfl)
          cases n81
          · exact g_not hS (wanted_no rfl rfl rfl eg (by decide)) rfl
          · exact g_val (.int .i64 fi) hS (wanted_yes rfl rfl rfl eg) (op_move rfl e9) rfl
        · replace eg := eg.trans (if_neg (by decide))
          exact g_not hS (wanted_un rfl rfl rfl eg) rfl
      · go_light; intro listed a' w' hs hS hun hdep
        have eg : a'.eval (.tmp 82) = (if n78 = false then .bool n81 else undef) := hs.eval 41 _ 82 rfl (hdep ⟨41, .guard⟩ (by simp) rfl) rfl
        have e83 : a'.eval (.tmp 83) = (if n78 = false then (if n81 = true then .int .i64 fi else undef) else undef) := hs.eval 42 _ 83 rfl (hdep ⟨42, .data⟩ (by simp) rfl) rfl
        cases n78
        · replace eg := eg.trans (if_pos rfl)
          cases n81
          · exact g_not hS (wanted_no rfl rfl rfl eg (by decide)) rfl
          · replace e83 := e83.trans (if_pos rfl)
            replace e83 := e83.trans (if_pos rfl)
            refine g_val (.bool n84) hS (wanted_yes rfl rfl rfl eg) ?_ rfl
            rw [← hn84.out]
            have hcn := BigFrame.eval_const a'; have hfn := BigFrame.eval_func a'; clear hs hdep; generalize a'.eval = ev at *; go_simp; try rfl
        · replace eg := eg.trans (if_neg (by decide))
          exact g_not hS (wanted_un rfl rfl rfl eg) rfl
      · go_light; intro listed a' w' hs hS hun hdep
        have eg : a'.eval (.tmp 79) = (.bool n78) := hs.eval 38 _ 79 rfl (hdep ⟨38, .guard⟩ (by simp) rfl) rfl
        have e82 : a'.eval (.tmp 82) = (if n78 = false then .bool n81 else undef) := hs.eval 41 _ 82 rfl (hdep ⟨41, .data⟩ (by simp) rfl) rfl
        have e84 : a'.eval (.tmp 84) = (if n78 = false then (if n81 = true then .bool n84 else undef) else undef) := hs.eval 43 _ 84 rfl (hdep ⟨43, .data⟩ (by simp) rfl) rfl
        cases n78
        · replace e82 := e82.trans (if_pos rfl)
          replace e84 := e84.trans (if_pos rfl)
          refine g_val (.bool n85) hS (wanted_yes rfl rfl rfl eg) ?_ rfl
          cases n81
          · replace e84 := e84.trans (if_neg (by decide))
            exact (op_pick_f rfl e82 (BigFrame.eval_const a' _)).trans (by rw [← hn85.out]; first | rfl | simp)
          · replace e84 := e84.trans (if_pos rfl)
            exact (op_pick_t rfl e82 e84).trans (by rw [← hn85.out]; first | rfl | simp)
        · exact g_not hS (wanted_no rfl rfl rfl eg (by decide)) rfl
      · go_light; intro listed a' w' hs hS hun hdep
        have eg : a'.eval (.tmp 79) = (.bool n78) := hs.eval 38 _ 79 rfl (hdep ⟨38, .guard⟩ (by simp) rfl) rfl
        have e85 : a'.eval (.tmp 85) = (if n78 = false then .bool n85 else undef) := hs.eval 44 _ 85 rfl (hdep ⟨44, .data⟩ (by simp) rfl) rfl
        cases n78
        · replace e85 := e85.trans (if_pos rfl)
          exact g_val (.bool n85) hS (wanted_yes rfl rfl rfl eg) (op_move rfl e85) rfl
        · exact g_not hS (wanted_no rfl rfl rfl eg (by decide)) rfl
      · go_light; intro listed a' w' hs hS hun hdep
        have eg : a'.eval (.tmp 86) = (if n78 = false then .bool n85 else undef) := hs.eval 45 _ 86 rfl (hdep ⟨45, .guard⟩ (by simp) rfl) rfl
        have e12 : a'.eval (.tmp 12) = .int .i64 fy := (hs.out 12 (by kernel_rfl)).trans (rfl)
        cases n78
        · replace eg := eg.trans (if_pos rfl)
          cases n85
          · exact g_not hS (wanted_no rfl rfl rfl eg (by decide)) rfl
          · exact g_val (.int .i64 fy) hS (wanted_yes rfl rfl rfl eg) (op_move rfl e12) rfl
        · replace eg := eg.trans (if_neg (by decide))
          exact g_not hS (wanted_un rfl rfl rfl eg) rfl
      · go_light; intro listed a' w' hs hS hun hdep
        have eg : a'.eval (.tmp 86) = (if n78 = false then .bool n85 else undef) := hs.eval 45 _ 86 rfl (hdep ⟨45, .guard⟩ (by simp) rfl) rfl
        have e87 : a'.eval (.tmp 87) = (if n78 = false then (if n85 = true then .int .i64 fy else undef) else undef) := hs.eval 46 _ 87 rfl (hdep ⟨46, .data⟩ (by simp) rfl) rfl
        cases n78
        · replace eg := eg.trans (if_pos rfl)
          cases n85
          · exact g_not hS (wanted_no rfl rfl rfl eg (by decide)) rfl
          · replace e87 := e87.trans (if_pos rfl)
            replace e87 := e87.trans (if_pos rfl)
            refine g_val (.bool n88) hS (wanted_yes rfl rfl rfl eg) ?_ rfl
            rw [← hn88.out]
            have hcn := BigFrame.eval_const a'; have hfn := BigFrame.eval_func a'; clear hs hdep; generalize a'.eval = ev at *; go_simp; try rfl
        · replace eg := eg.trans (if_neg (by decide))
          exact g_not hS (wanted_un rfl rfl rfl eg) rfl
      · go_light; intro listed a' w' hs hS hun hdep
        have eg : a'.eval (.tmp 79) = (.bool n78) := hs.eval 38 _ 79 rfl (hdep ⟨38, .guard⟩ (by simp) rfl) rfl
        have e86 : a'.eval (.tmp 86) = (if n78 = false then .bool n85 else undef) := hs.eval 45 _ 86 rfl (hdep ⟨45, .data⟩ (by simp) rfl) rfl
        have e88 : a'.eval (.tmp 88) = (if n78 = false then (if n85 = true then .bool n88 else undef) else undef) := hs.eval 47 _ 88 rfl (hdep ⟨47, .data⟩ (by simp) rfl) rfl
        cases n78
        · replace e86 := e86.trans (if_pos rfl)
          replace e88 := e88.trans (if_pos rfl)
          refine g_val (.bool n89) hS (wanted_yes rfl rfl rfl eg) ?_ rfl
          cases n85
          · replace e88 := e88.trans (if_neg (by decide))
            exact (op_pick_f rfl e86 (BigFrame.eval_const a' _)).trans (by rw [← hn89.out]; first | rfl | simp)
          · replace e88 := e88.trans (if_pos rfl)
            exact (op_pick_t rfl e86 e88).trans (by rw [← hn89.out]; first | rfl | simp)
        · exact g_not hS (wanted_no rfl rfl rfl eg (by decide)) rfl
      · go_light; intro listed a' w' hs hS hun hdep
        have e79 : a'.eval (.tmp 79) = (.bool n78) := hs.eval 38 _ 79 rfl (hdep ⟨38, .data⟩ (by simp) rfl) rfl
        have e89 : a'.eval (.tmp 89) = (if n78 = false then .bool n89 else undef) := hs.eval 48 _ 89 rfl (hdep ⟨48, .data⟩ (by simp) rfl) rfl
        refine g_val (.bool n90) hS rfl ?_ rfl
        cases n78
        · replace e89 := e89.trans (if_pos rfl)
          exact (op_pick_f rfl e79 e89).trans (by rw [← hn90.out]; first | rfl | simp)
        · replace e89 := e89.trans (if_neg (by decide))
          exact (op_pick_t rfl e79 (BigFrame.eval_const a' _)).trans (by rw [← hn90.out]; first | rfl | simp)
      · intro vs w11 hlen hV hS
        obtain ⟨v0, v1, v2, v3, v4, v5, v6, v7, v8, v9, v10, v11, v12, v13, v14, v15, v16, v17, v18, v19, v20, v21, v22, v23, v24, v25, v26, v27, v28, v29, v30, v31, v32, v33, v34, v35, v36, v37, v38, v39, v40, v41, v42, v43, v44, v45, v46, v47, v48, v49, rfl⟩ := vs_50 vs (hlen.trans rfl)
        have q0 : v0 = .int .i64 fi := hV 0 _ rfl
        have q1 : v1 = .bool n42 := hV 1 _ rfl
        have q2 : v2 = .bool n42 := hV 2 _ rfl
        have q6 : v6 = .bool n47 := hV 6 _ rfl
        have q7 : v7 = .bool n47 := hV 7 _ rfl
        have q16 : v16 = .bool n57 := hV 16 _ rfl
        have q17 : v17 = .bool n57 := hV 17 _ rfl
        have q23 : v23 = .bool n64 := hV 23 _ rfl
        have q24 : v24 = .bool n64 := hV 24 _ rfl
        have q37 : v37 = .bool n78 := hV 37 _ rfl
        have q38 : v38 = .bool n78 := hV 38 _ rfl
        have q49 : v49 = .bool n90 := hV 49 _ rfl
        have hbel : Below w10.heap.size w10 w11 := hS
        subst q0 q1 q2 q6 q7 q16 q17 q23 q24 q37 q38 q49
        clear hV hS hlen
        simp only [lays, Act.put, List.setIfInBounds_toArray, List.set_cons_zero, List.set_cons_succ, List.drop_succ_cons, List.drop_zero, List.take_succ_cons, List.take_zero]
        have hbw11 := hbw10.trans (hbel.mono hbw10.size)
        have h90 : n90 = false := by
          rw [← hn90.out, ← hn89.out, ← hn88.out, ← hn85.out, ← hn84.out, ← hn81.out, ← hn78.out, ← hn77.out, ← hn76.out, ← hn71.out, ← hn70.out, ← hn67.out, ← hn64.out, ← hn63.out, ← hn62.out, ← hn57.out, ← hn56.out, ← hn55.out, ← hn53.out, ← hn50.out, ← hn47.out, ← hn46.out, ← hn42.out]
          rcases HC.out with ⟨k, hk, h1, h2, h3⟩ | ⟨h1, h2, h3⟩
          · cases mm
            · have h3 : fy = (k : Int) + 1 := h3
              subst h1 h2 h3
              simp
              omega
            · have h3 : fy = 0 := h3
              subst h1 h2 h3
              simp
          · cases mm
            · have h3 : fy = -1 := h3
              have h2 : fx = -1 := h2
              subst h1 h2 h3
              simp
            · have h3 : fy = 0 := h3
              have h2 : fx = (l.length : Int) := h2
              subst h1 h2 h3
              simp
        clear hbel hn42 hn46 hn47 hn50 hn53 hn55 hn56 hn57 hn62 hn63 hn64 hn67 hn70 hn71 hn76 hn77 hn78 hn81 hn84 hn85 hn88 hn89 hn90 HC
        subst h90
        go_wp2_with fail
        refine (rule_awake _).mono ?_
        rintro e wz ⟨rfl, hbz⟩
        have hbwz := hbw11.trans (hbz.mono hbw11.size)
        go_wp2
        go_ret
        exact ⟨rfl, hbwz⟩
#print axioms rbehind_law
end Go.Proofs.Ytagfcfkkjllfpaa
