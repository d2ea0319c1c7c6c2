/- Which rules are right; the first one that matches; whether it allows. -/
import Derived.Test.YtagfcfkkjllfpaaRuCond
import Derived.WalkMore
namespace Go.Proofs.Ytagfcfkkjllfpaa
open Go.RowKit
set_option maxRecDepth 100000
set_option linter.unusedVariables false
open U

namespace U
def zRu : Ru := ⟨0, 0, 0, 0, 0, 0, 0, 0, 0, 0, 0, false⟩
def ru (l : List Ru) (k : Nat) : Ru := l.getD k zRu
theorem ru_get (l : List Ru) (k : Nat) (h : k < l.length) : l[k]? = some (ru l k) := by unfold ru; rw [List.getD_eq_getElem?_getD, List.getElem?_eq_getElem h]; rfl
theorem ru_mem (l : List Ru) (k : Nat) (h : k < l.length) : ru l k ∈ l := List.mem_of_getElem? (ru_get l k h)
/-- The place of the first rule that matches. -/
def Rfirst (l : List Ru) (a : Ask) : Int := first (fun k => (ru l k).m a) l.length
def allOk (l : List Ru) : Bool := l.all Ru.ok
theorem allOk_no {l : List Ru} {k : Nat} (hk : k < l.length) (h : (ru l k).ok = false) : l.all Ru.ok = false := by
  rw [List.all_eq_false]
  exact ⟨_, ru_mem l k hk, by simp [h]⟩
theorem allOk_yes {l : List Ru} (h : ∀ k, k < l.length → (ru l k).ok = true) : l.all Ru.ok = true := by
  rw [List.all_eq_true]
  intro x hx
  obtain ⟨k, hk, rfl⟩ := List.getElem_of_mem hx
  have := h k hk
  unfold ru at this
  rwa [List.getD_eq_getElem?_getD, List.getElem?_eq_getElem hk] at this
end U
/-- Rules in a row. -/
abbrev RRow (w : World) (ao : Option Addr) (l : List Ru) : Prop := RowsOf 12 Ru.v w ao l
def Fine (l : List Ru) : Prop := ∀ x ∈ l, x.fine

set_option maxHeartbeats 4000000 in
theorem Right_any (ao : Option Addr) (cap : Nat) (l : List Ru) (w : World) (h : RRow w ao l) (hf : Fine l) (hl : l.length ≤ 1000000) :
    Calls Try.prog 17 #[.slice ao l.length cap] w fun e w' => e = .returned (.bool (l.all Ru.ok)) ∧ Below w.heap.size w w' := by
  have HR := Lib.hid h
  have HF := Lib.hid hf
  clear h hf
  go_enter Try.func17, Try.ntmps17
  go_wp2
  go_loopw [7] (fun i wr => ∃ k : Nat, k ≤ l.length ∧ i = .int .i64 k ∧ Hid (∀ j, j < k → (ru l j).ok = true) ∧ Below w.heap.size w wr) (fun i _ => l.length - (intOf i).toNat)
  case atStart => exact ⟨0, Nat.zero_le _, rfl, Lib.hid fun j hj => by omega, Below.refl _ _⟩
  case round =>
    obtain ⟨k, hk, rfl, HN, hb⟩ := hrel
    by_cases hkl : k < l.length
    · have hkl2 : (k : Int) < (l.length : Int) := by omega
      obtain ⟨b, off, rfl, hbl, hL⟩ := (HR.out.below hb).at k _ (ru_get l k hkl)
      have HOK := Lib.hid (fun w' => ok_any (ru l k) w' (HF.out _ (ru_mem l k hkl)).1 (HF.out _ (ru_mem l k hkl)).2)
      have HNo := Lib.hid (fun h : (ru l k).ok = false => allOk_no hkl h)
      have HN2 := Lib.hid (fun h : (ru l k).ok = true => (show ∀ j, j < k + 1 → (ru l j).ok = true from fun j hj => by
        rcases Nat.lt_or_ge j k with h1 | h1
        · exact HN.out j h1
        · obtain rfl : j = k := by omega
          exact h))
      generalize ru l k = r at *
      generalize hok : r.ok = q at *
      clear hok
      have c0 := hL.at0 0 _ _ rfl rfl
      have c1 := hL.at0 1 _ _ rfl rfl
      have c2 := hL.at0 2 _ _ rfl rfl
      have c3 := hL.at0 3 _ _ rfl rfl
      have c4 := hL.at0 4 _ _ rfl rfl
      have c5 := hL.at0 5 _ _ rfl rfl
      have c6 := hL.at0 6 _ _ rfl rfl
      have c7 := hL.at0 7 _ _ rfl rfl
      have c8 := hL.at0 8 _ _ rfl rfl
      have c9 := hL.at0 9 _ _ rfl rfl
      have c10 := hL.at0 10 _ _ rfl rfl
      have c11 := hL.at0 11 _ _ rfl rfl
      obtain ⟨i, o, sa, sb, da, db, p, slo, shi, dlo, dhi, al⟩ := r
      simp only [Ru.v] at HOK
      simp only [Nat.add_zero] at c0
      clear hL
      go_wp2_with fail
      refine (HOK.out _).mono ?_
      rintro e w2 ⟨rfl, hb2⟩
      have hbw := (hb.alloc hb.size _).trans (hb2.mono (by have := hb.size; simp; omega))
      clear c0 c1 c2 c3 c4 c5 c6 c7 c8 c9 c10 c11 hb2
      cases q
      · have G := Lib.hid (HNo.out rfl)
        go_wp2
        go_ret
        exact ⟨by rw [G.out]; rfl, hbw⟩
      · have G := Lib.hid (HN2.out rfl)
        go_wp2
        go_roundw
        case rel => exact ⟨k + 1, by omega, by go_num, G, hbw⟩
        case measure => simp [intOf]; omega
    · obtain rfl : k = l.length := by omega
      have hge : ¬ (l.length : Int) < (l.length : Int) := by omega
      have G := Lib.hid (allOk_yes HN.out)
      go_wp2
      go_ret
      exact ⟨by rw [G.out]; rfl, hb⟩

theorem Try.info_bool : (Try.prog.info? 4).map (·.size) = some 1 := by kernel_rfl
theorem index_conds (bs : List Bool) (k : Nat) (hk : k < 8) (hl : bs.length = 8) (w : World) : (Instr.index 62 (.agg (bs.map Value.bool).toArray) (.int .i64 k)).run Try.prog w = .ok (.bool (bs.getD k false)) w := by
  cases hq : Try.prog.info? 4 with
  | none => have := Try.info_bool; simp [hq] at this
  | some i => exact index_bools _ _ 8 _ i Try.underlying62 Try.underlying4 rfl hq (by have := Try.info_bool; simpa [hq] using this) bs k hk hl w
theorem U.m_no {r : Ru} {a : U.Ask} {k : Nat} (hk : k < 8) (h : (conds r a).getD k false = false) : r.m a = false := by
  unfold Ru.m
  rw [List.all_eq_false]
  have hl : (conds r a).length = 8 := rfl
  rw [List.getD_eq_getElem?_getD, List.getElem?_eq_getElem (by omega)] at h
  exact ⟨(conds r a)[k]'(by omega), List.getElem_mem _, by simpa using h⟩
theorem U.m_yes {r : Ru} {a : U.Ask} (h : ∀ k, k < 8 → (conds r a).getD k false = true) : r.m a = true := by
  unfold Ru.m
  rw [List.all_eq_true]
  intro x hx
  obtain ⟨k, hk, rfl⟩ := List.getElem_of_mem hx
  have := h k hk
  rwa [List.getD_eq_getElem?_getD, List.getElem?_eq_getElem hk] at this

set_option maxHeartbeats 8000000 in
theorem First_any (ao : Option Addr) (cap : Nat) (l : List Ru) (a : U.Ask) (w : World) (h : RRow w ao l) (hf : Fine l) (ha : a.s < 4294967296 ∧ a.d < 4294967296) (hl : l.length ≤ 1000000) :
    Calls Try.prog 15 #[.slice ao l.length cap, .agg a.v.toArray] w fun e w' => e = .returned (.int .i64 (Rfirst l a)) ∧ Below w.heap.size w w' := by
  have HR := Lib.hid h
  have HF := Lib.hid hf
  have HA := Lib.hid ha
  obtain ⟨fi, hfi⟩ : ∃ x, Rfirst l a = x := ⟨_, rfl⟩
  have HFI := Lib.hid hfi
  rw [hfi]
  have HC := Lib.hid (fun k (hk : k < l.length) w' => conds_any (ru l k) a w' (hf _ (ru_mem l k hk)).1 (hf _ (ru_mem l k hk)).2 ha.1 ha.2)
  have HNo := Lib.hid (fun k i (hk : i < 8) => U.m_no (r := ru l k) (a := a) hk)
  have HYes := Lib.hid (fun k => U.m_yes (r := ru l k) (a := a))
  have HL8 := Lib.hid (fun k => show (conds (ru l k) a).length = 8 from rfl)
  have HHit : Hid (∀ k, k < l.length → (∀ j, j < k → (ru l j).m a = false) → (ru l k).m a = true → fi = k) := Lib.hid fun k h1 h2 h3 => by rw [← HFI.out]; exact first_some h1 h2 h3
  have HMiss : Hid ((∀ j, j < l.length → (ru l j).m a = false) → fi = -1) := Lib.hid fun h1 => by rw [← HFI.out]; exact first_none h1
  clear h hf ha hfi HFI HF HA
  generalize hm : (fun k => (ru l k).m a) = mm at *
  generalize hcd : (fun k => conds (ru l k) a) = cd at *
  have hm' : ∀ k, (ru l k).m a = mm k := fun k => congrFun hm k
  have hcd' : ∀ k, conds (ru l k) a = cd k := fun k => congrFun hcd k
  simp only [hm', hcd'] at HC HNo HYes HL8 HHit HMiss
  clear hm hcd hm' hcd'
  obtain ⟨ai, aos, as_, ad, ap, asp, adp⟩ := a
  simp only [Ask.v] at *
  have hb0 := below1 w (.cells #[.int .i64 ai, .int .i64 aos, .int .u32 as_, .int .u32 ad, .int .i64 ap, .int .i64 asp, .int .i64 adp] 27)
  have LA := Lib.hid (Lies.new w [.int .i64 ai, .int .i64 aos, .int .u32 as_, .int .u32 ad, .int .i64 ap, .int .i64 asp, .int .i64 adp] 27)
  go_enter Try.func15, Try.ntmps15
  go_wp2
  generalize (w.alloc (.cells #[.int .i64 ai, .int .i64 aos, .int .u32 as_, .int .u32 ad, .int .i64 ap, .int .i64 asp, .int .i64 adp] 27)) = W0 at *
  go_step3
  go_wp2
  go_step3
  go_wp2
  go_loopw [11] (fun i wr => ∃ k : Nat, k ≤ l.length ∧ i = .int .i64 k ∧ Hid (∀ j, j < k → mm j = false) ∧ Below W0.heap.size W0 wr ∧ Below w.heap.size w wr) (fun i _ => l.length - (intOf i).toNat)
  case atStart => exact ⟨0, Nat.zero_le _, rfl, Lib.hid fun j hj => by omega, Below.refl _ _, hb0⟩
  case round =>
    obtain ⟨k, hk, rfl, HN, hb, hbw⟩ := hrel
    by_cases hkl : k < l.length
    · have hkl2 : (k : Int) < (l.length : Int) := by omega
      obtain ⟨b, off, rfl, hbl, hL⟩ := (HR.out.below hbw).at k _ (ru_get l k hkl)
      have HCk := Lib.hid (HC.out k hkl)
      have HLk := Lib.hid (HL8.out k)
      have HNk := Lib.hid (HNo.out k)
      have HYk := Lib.hid (HYes.out k)
      have HHk := Lib.hid (HHit.out k hkl HN.out)
      have HN2 := Lib.hid (fun h : mm k = false => (show ∀ j, j < k + 1 → mm j = false from fun j hj => by
        rcases Nat.lt_or_ge j k with h1 | h1
        · exact HN.out j h1
        · obtain rfl : j = k := by omega
          exact h))
      generalize mm k = mk at *
      generalize cd k = bs at *
      generalize ru l k = r at *
      have c0 := hL.at0 0 _ _ rfl rfl
      have c1 := hL.at0 1 _ _ rfl rfl
      have c2 := hL.at0 2 _ _ rfl rfl
      have c3 := hL.at0 3 _ _ rfl rfl
      have c4 := hL.at0 4 _ _ rfl rfl
      have c5 := hL.at0 5 _ _ rfl rfl
      have c6 := hL.at0 6 _ _ rfl rfl
      have c7 := hL.at0 7 _ _ rfl rfl
      have c8 := hL.at0 8 _ _ rfl rfl
      have c9 := hL.at0 9 _ _ rfl rfl
      have c10 := hL.at0 10 _ _ rfl rfl
      have c11 := hL.at0 11 _ _ rfl rfl
      have hLA := LA.out.below hb
      have d0 := hLA.at0 0 _ _ rfl rfl
      have d1 := hLA.at0 1 _ _ rfl rfl
      have d2 := hLA.at0 2 _ _ rfl rfl
      have d3 := hLA.at0 3 _ _ rfl rfl
      have d4 := hLA.at0 4 _ _ rfl rfl
      have d5 := hLA.at0 5 _ _ rfl rfl
      have d6 := hLA.at0 6 _ _ rfl rfl
      have hdl := hLA.lt
      obtain ⟨i, o, sa, sb, da, db, p, slo, shi, dlo, dhi, al⟩ := r
      simp only [Ru.v] at HCk
      simp only [Nat.add_zero] at c0
      simp only [Nat.zero_add] at d0 d1 d2 d3 d4 d5 d6
      clear hL hLA
      go_wp2_with fail
      refine (HCk.out _).mono ?_
      rintro e w2 ⟨rfl, hb2⟩
      have hb3 := (hb.alloc hb.size _).trans (hb2.mono (by have := hb.size; simp; omega))
      have hbw3 := (hbw.alloc hbw.size _).trans (hb2.mono (by have := hbw.size; simp; omega))
      clear c0 c1 c2 c3 c4 c5 c6 c7 c8 c9 c10 c11 d0 d1 d2 d3 d4 d5 d6 hb2 hb hbw HCk
      go_wp2_with fail
      go_loopw [19] (fun i wr => ∃ j : Nat, j ≤ 8 ∧ i = .int .i64 j ∧ Hid (∀ q, q < j → bs.getD q false = true) ∧ wr = w2) (fun i _ => 8 - (intOf i).toNat)
      case atStart => exact ⟨0, Nat.zero_le _, rfl, Lib.hid fun j hj => by omega, rfl⟩
      case round =>
        obtain ⟨j, hj, rfl, HJ, rfl⟩ := hrel
        by_cases hj8 : j < 8
        · have hj8' : (j : Int) < 8 := by omega
          have hix := fun w => index_conds bs j hj8 HLk.out w
          obtain ⟨x, hx⟩ : ∃ x, bs.getD j false = x := ⟨_, rfl⟩
          rw [hx] at hix
          cases x
          · have G := Lib.hid (HN2.out (HNk.out j hj8 hx))
            clear hx
            go_wp2
            go_roundw
            case rel => exact ⟨k + 1, by omega, by go_num, G, hb3, hbw3⟩
            case measure => simp [intOf]; omega
          · have HJ2 : Hid (∀ q, q < j + 1 → bs.getD q false = true) := Lib.hid fun q hq => by
              rcases Nat.lt_or_ge q j with h1 | h1
              · exact HJ.out q h1
              · obtain rfl : q = j := by omega
                exact hx
            clear hx
            go_wp2
            go_roundw
            case rel => exact ⟨j + 1, by omega, by go_num, HJ2, by trivial⟩
            case measure => simp [intOf]; omega
        · obtain rfl : j = 8 := by omega
          have G := Lib.hid (HHk.out (HYk.out HJ.out))
          go_wp2
          unfold Exit.noGoto
          go_ret
          exact ⟨by rw [G.out]; rfl, hbw3⟩
    · obtain rfl : k = l.length := by omega
      have hge : ¬ (l.length : Int) < (l.length : Int) := by omega
      have G := Lib.hid (HMiss.out HN.out)
      go_wp2
      go_ret
      exact ⟨by rw [G.out]; rfl, hbw⟩
end Go.Proofs.Ytagfcfkkjllfpaa
