/- DoiFinds, walked whole. -/
import Derived.Test.YtdipoaekdafbeaaDoLaw
namespace Go.Proofs.Ytdipoaekdafbeaa
open Go.RowKit Go.Maps
set_option maxRecDepth 100000
set_option linter.unusedVariables false
open D

set_option maxHeartbeats 8000000 in
theorem finds_all (a : Option Addr) (cap : Nat) (l : List Dm) (x : Int) (w : World) (h : DRow w a l) (hd : ∀ k, k < l.length → DIn w (dm l k)) :
    Calls Try.prog 5 #[.slice a l.length cap, .int .u32 x] w fun e w' => e = .returned (.bool true) ∧ Below w.heap.size w w' := by
  have Hrow := Lib.hid h
  have HD := Lib.hid hd
  clear h hd
  by_cases h20 : 20 < l.length
  · have h20' : (20 : Int) < (l.length : Int) := by omega
    go_enter Try.func5, Try.ntmps5
    go_wp2_with fail
    refine (doi_awake _).mono ?_
    rintro e w1 ⟨rfl, hb1⟩
    go_wp2
    go_ret
    exact ⟨rfl, hb1⟩
  have h20' : ¬ (20 : Int) < (l.length : Int) := by omega
  go_enter Try.func5, Try.ntmps5
  go_wp2
  go_loopw [5, 6, 7] (fun q r i wr => ∃ (k : Nat) (at_ : Int) (rt : Bool), k ≤ l.length ∧ i = .int .i64 ((k : Int) - 1) ∧ q = .int .i64 at_ ∧ r = .bool rt ∧
    ((at_ = -1 ∧ ∀ j, k ≤ j → j < l.length → (dm l j).num ≠ x) ∨ (∃ j, k ≤ j ∧ j < l.length ∧ at_ = j ∧ (dm l j).num = x ∧ ∀ i, k ≤ i → i < j → (dm l i).num ≠ x)) ∧
    (rt = true ↔ ∀ j, k ≤ j → j < l.length → (dm l j).right = true) ∧ (∀ j, k ≤ j → j < l.length → (dm l j).lv.length ≤ 300 ∧ (dm l j).ct.length ≤ 300) ∧ Below w.heap.size w wr) (fun _ _ i _ => (intOf i + 1).toNat)
  case atStart => exact ⟨l.length, -1, true, Nat.le_refl _, rfl, rfl, rfl, .inl ⟨rfl, fun j h1 h2 => by omega⟩, ⟨fun _ j h1 h2 => by omega, fun _ => rfl⟩, fun j h1 h2 => by omega, Below.refl _ _⟩
  case round =>
    obtain ⟨k1, at_, rt, hk, rfl, rfl, rfl, hat, hrt, hlen, hb⟩ := hrel
    have hbs := hb.size
    have Hat := Lib.hid hat
    have Hrt := Lib.hid hrt
    have Hlen := Lib.hid hlen
    clear hat hrt hlen
    by_cases hk0 : k1 = 0
    · subst hk0
      have hneg : ¬ (0 : Int) ≤ ((0 : Nat) : Int) - 1 := by omega
      have hok : ∀ k, k < l.length → DOk wr (dm l k) := fun k hk => ((HD.out k hk).below hb).ok (by have := (Hlen.out k (by omega) hk).1; omega) (by have := (Hlen.out k (by omega) hk).2; omega)
      have HF := Lib.hid (DFind_any a cap l x wr (Hrow.out.below hb) (by omega))
      have e1 : firstI (fun d => decide (d.num = x)) l = at_ := by
        rcases Hat.out with ⟨rfl, hn⟩ | ⟨j, _, hj, rfl, hj2, hn⟩
        · exact firstI_miss _ l fun j hj => by simpa using hn j (by omega) hj
        · exact firstI_hit _ l j hj (fun i hi => by simpa using hn i (by omega) hi) (by simpa using hj2)
      have e2 : allR l = rt := by
        cases hr : rt
        · unfold allR
          rw [List.all_eq_false]
          have hno : ¬ ∀ j, 0 ≤ j → j < l.length → (dm l j).right = true := fun h => by
            have := Hrt.out.2 h
            rw [hr] at this
            cases this
          have hex : ∃ j, j < l.length ∧ ¬ (dm l j).right = true := Classical.byContradiction fun hn => hno fun j _ hj => Classical.byContradiction fun h => hn ⟨j, hj, h⟩
          obtain ⟨j, hj, hr⟩ := hex
          exact ⟨l[j], List.getElem_mem hj, by rw [← dm_get l j hj]; exact hr⟩
        · unfold allR
          rw [List.all_eq_true]
          intro d hd
          obtain ⟨i, hi, rfl⟩ := List.getElem_of_mem hd
          rw [← dm_get l i hi]
          exact Hrt.out.1 hr i (by omega) hi
      rw [e1] at HF
      clear e1 Hat Hrt
      have HK := Lib.hid hok
      clear hok
      go_wp2_with fail
      refine HF.out.mono ?_
      rintro e w1 ⟨rfl, hb1⟩
      have hbw1 := hb.trans (hb1.mono hbs)
      have HR := Lib.hid (DRight_any a cap l w1 ((Hrow.out.below hb).below hb1) (by omega) (fun k hk => (HK.out k hk).below hb1))
      rw [e2] at HR
      clear e2 HK
      go_wp2_with fail
      refine HR.out.mono ?_
      rintro e w2 ⟨rfl, hb2⟩
      have hbw2 := hbw1.trans (hb2.mono hbw1.size)
      have hrr : (rt == rt) = true := by cases rt <;> rfl
      clear HR
      go_wp2_with fail
      refine (doi_awake _).mono ?_
      rintro e w3 ⟨rfl, hb3⟩
      have hbw3 := hbw2.trans (hb3.mono hbw2.size)
      go_wp2
      go_ret
      exact ⟨rfl, hbw3⟩
    · obtain ⟨k, rfl⟩ : ∃ k, k1 = k + 1 := ⟨k1 - 1, by omega⟩
      have hlt : k < l.length := by omega
      have hix : ((k + 1 : Nat) : Int) - 1 = (k : Int) := by omega
      rw [hix]
      obtain ⟨b, off, rfl, hbl, c0, c1, c2⟩ := Hrow.out.then hb k hlt
      have hlt' : (k : Int) < (l.length : Int) := by omega
      have hk0' : (0 : Int) ≤ (k : Int) := by omega
      have HIn := Lib.hid ((HD.out k hlt).below hb)
      have Hlen2 : Hid ((dm l k).lv.length ≤ 300 → (dm l k).ct.length ≤ 300 → ∀ j, k ≤ j → j < l.length → (dm l j).lv.length ≤ 300 ∧ (dm l j).ct.length ≤ 300) := Lib.hid (fun h1 h2 j h3 h4 => by
        rcases Nat.lt_or_ge k j with h5 | h5
        · exact Hlen.out j h5 h4
        · obtain rfl : j = k := by omega
          exact ⟨h1, h2⟩)
      have Hrt2 : Hid ((rt && (dm l k).right) = true ↔ ∀ j, k ≤ j → j < l.length → (dm l j).right = true) := Lib.hid (by
        rw [Bool.and_eq_true, Hrt.out]
        constructor
        · rintro ⟨h1, h2⟩ j h3 h4
          rcases Nat.lt_or_ge k j with h5 | h5
          · exact h1 j h5 h4
          · obtain rfl : j = k := by omega
            exact h2
        · intro h
          exact ⟨fun j h1 h2 => h j (by omega) h2, h k (Nat.le_refl _) hlt⟩)
      have Hat2 : Hid ((dm l k).num ≠ x → ((at_ = -1 ∧ ∀ j, k ≤ j → j < l.length → (dm l j).num ≠ x) ∨ (∃ j, k ≤ j ∧ j < l.length ∧ at_ = j ∧ (dm l j).num = x ∧ ∀ i, k ≤ i → i < j → (dm l i).num ≠ x))) := Lib.hid (fun hne => by
        rcases Hat.out with ⟨h1, h2⟩ | ⟨j, h1, h2, h3, h4, h5⟩
        · refine .inl ⟨h1, fun j h3 h4 => ?_⟩
          rcases Nat.lt_or_ge k j with h5 | h5
          · exact h2 j h5 h4
          · obtain rfl : j = k := by omega
            exact hne
        · refine .inr ⟨j, by omega, h2, h3, h4, fun i h6 h7 => ?_⟩
          rcases Nat.lt_or_ge k i with h8 | h8
          · exact h5 i h8 h7
          · obtain rfl : i = k := by omega
            exact hne)
      have Hat3 : Hid ((dm l k).num = x → ∃ j, k ≤ j ∧ j < l.length ∧ (k : Int) = j ∧ (dm l j).num = x ∧ ∀ i, k ≤ i → i < j → (dm l i).num ≠ x) := Lib.hid (fun he => ⟨k, Nat.le_refl _, hlt, rfl, he, fun i h1 h2 => by omega⟩)
      have HG := Lib.hid (great_any (dm l k) wr)
      have HRR := Lib.hid (fun w' (hb' : Below wr.heap.size wr w') (h1 : (dm l k).lv.length ≤ 300) (h2 : (dm l k).ct.length ≤ 300) => rright_any (dm l k) w' ((HIn.out.below hb').ok (by omega) (by omega)))
      have hdv := Lib.hid (show (dm l k).v = #[.int .u32 (dm l k).num, .slice (dm l k).la (dm l k).lv.length (dm l k).lc, .slice (dm l k).ca (dm l k).ct.length (dm l k).cc] from rfl)
      rw [hdv.out] at HG HRR
      clear Hat Hrt Hlen HIn hdv
      generalize hdk : dm l k = d at *
      clear hdk
      by_cases hgr : 300 < d.lv.length ∨ 300 < d.ct.length
      · have hgt : (decide (300 < d.lv.length) || decide (300 < d.ct.length)) = true := by simpa using hgr
        rw [hgt] at HG
        clear HRR Hat2 Hat3 Hrt2 Hlen2 hgt
        go_wp2_with fail
        refine HG.out.mono ?_
        rintro e w1 ⟨rfl, hb1⟩
        have hbw1 := hb.trans (hb1.mono hbs)
        go_wp2_with fail
        refine (doi_awake _).mono ?_
        rintro e w2 ⟨rfl, hb2⟩
        have hbw2 := hbw1.trans (hb2.mono hbw1.size)
        go_wp2
        go_ret
        exact ⟨rfl, hbw2⟩
      · have hgt : (decide (300 < d.lv.length) || decide (300 < d.ct.length)) = false := by simpa using hgr
        rw [hgt] at HG
        have GL := Lib.hid (Hlen2.out (by omega) (by omega))
        have HRR := Lib.hid (fun w' (hb' : Below wr.heap.size wr w') => HRR.out w' hb' (by omega) (by omega))
        clear Hlen2 hgt
        go_wp2_with fail
        refine HG.out.mono ?_
        rintro e w1 ⟨rfl, hb1⟩
        have hbw1 := hb.trans (hb1.mono hbs)
        have c0 := (hb1.cell (p := ⟨b, off + k * 3, none⟩) (Nat.lt_of_lt_of_le hbl hbs)).trans c0
        have c1 := (hb1.cell (p := ⟨b, off + k * 3 + 1, none⟩) (Nat.lt_of_lt_of_le hbl hbs)).trans c1
        have c2 := (hb1.cell (p := ⟨b, off + k * 3 + 2, none⟩) (Nat.lt_of_lt_of_le hbl hbs)).trans c2
        have HR1 := Lib.hid (HRR.out w1 hb1)
        clear HG HRR hgr
        generalize d.right = q at *
        by_cases hx : d.num = x
        · have GA := Lib.hid (Hat3.out hx)
          have hx' : (d.num == x) = true := by simpa using hx
          clear hx
          clear Hat2 Hat3
          cases rt
          · go_wp2
            go_roundw
            case rel => exact ⟨k, (k : Int), false, by omega, by go_num, rfl, rfl, .inr GA.out, Hrt2.out, GL.out, hbw1⟩
            case measure => simp [intOf]
          · go_wp2_with fail
            refine HR1.out.mono ?_
            rintro e w2 ⟨rfl, hb2⟩
            have hbw2 := hbw1.trans (hb2.mono hbw1.size)
            have c0 := (hb2.cell (p := ⟨b, off + k * 3, none⟩) (Nat.lt_of_lt_of_le hbl hbw1.size)).trans c0
            go_wp2
            go_roundw
            case rel => exact ⟨k, (k : Int), q, by omega, by go_num, rfl, rfl, .inr GA.out, Hrt2.out, GL.out, hbw2⟩
            case measure => simp [intOf]
        · have GA := Lib.hid (Hat2.out hx)
          have hx' : (d.num == x) = false := by simpa using hx
          clear hx
          clear Hat2 Hat3
          cases rt
          · go_wp2
            go_roundw
            case rel => exact ⟨k, at_, false, by omega, by go_num, rfl, rfl, GA.out, Hrt2.out, GL.out, hbw1⟩
            case measure => simp [intOf]
          · go_wp2_with fail
            refine HR1.out.mono ?_
            rintro e w2 ⟨rfl, hb2⟩
            have hbw2 := hbw1.trans (hb2.mono hbw1.size)
            have c0 := (hb2.cell (p := ⟨b, off + k * 3, none⟩) (Nat.lt_of_lt_of_le hbl hbw1.size)).trans c0
            go_wp2
            go_roundw
            case rel => exact ⟨k, at_, q, by omega, by go_num, rfl, rfl, GA.out, Hrt2.out, GL.out, hbw2⟩
            case measure => simp [intOf]
#print axioms finds_all
end Go.Proofs.Ytdipoaekdafbeaa
