/- The document's answer for a label that is told in a domain; what tells it there, and back. -/
import Derived.Test.YtdipoaekdafbeaaDoTell2
namespace Go.Proofs.Ytdipoaekdafbeaa
open Go.RowKit Go.Maps
set_option maxRecDepth 100000
set_option linter.unusedVariables false
open D

set_option maxHeartbeats 4000000 in
theorem number_false (a : Option Addr) (cap : Nat) (l : Pairs) (z : Int) (w : World) (h : PRow w a l) (hl : l.length ≤ 1000) :
    Calls Try.prog 36 #[.slice a l.length cap, .int .i64 z, .bool false] w fun e w' => e = .returned (.int .i64 (num1 false l z)) ∧ Below w.heap.size w w' := by
  have Hrow := Lib.hid h
  clear h
  obtain ⟨R, hR⟩ : ∃ R, num1 false l z = R := ⟨_, rfl⟩
  have HR := Lib.hid hR
  rw [hR]
  clear hR
  by_cases h0 : l.length = 0
  · have G : Hid (R = z) := Lib.hid (by rw [← HR.out]; exact num1_nil _ l z h0)
    have h0' : ((l.length : Int) == 0) = true := by simpa using h0
    go_enter Try.func36, Try.ntmps36
    go_wp2
    go_ret
    exact ⟨by rw [G.out]; rfl, Below.refl _ _⟩
  have h0' : ((l.length : Int) == 0) = false := by simpa using h0
  go_enter Try.func36, Try.ntmps36
  go_wp2
  go_loopw [7] (fun i wr => ∃ k : Nat, k ≤ l.length ∧ i = .int .i64 k ∧ (∀ j, j < k → (sw false (pt l j)).1 ≠ z) ∧ Below w.heap.size w wr) (fun i _ => l.length - (intOf i).toNat)
  case atStart => exact ⟨0, Nat.zero_le _, rfl, fun j hj => absurd hj (by omega), Below.refl _ _⟩
  case round =>
    obtain ⟨k, hk, rfl, hno, hb⟩ := hrel
    by_cases hlt : k < l.length
    · obtain ⟨b, off, rfl, hbl, c0, c1⟩ := Hrow.out.then hb k hlt
      have Hno := Lib.hid hno
      have HY : Hid ((sw false (pt l k)).1 = z → R = (sw false (pt l k)).2) := Lib.hid (fun h => by rw [← HR.out]; exact num1_hit _ l z k hlt Hno.out h)
      have HN : Hid ((sw false (pt l k)).1 ≠ z → ∀ j, j < k + 1 → (sw false (pt l j)).1 ≠ z) := Lib.hid (fun h j hj => by
        rcases Nat.lt_or_ge j k with h1 | h1
        · exact Hno.out j h1
        · obtain rfl : j = k := by omega
          exact h)
      generalize hp : pt l k = p at *
      obtain ⟨x, y⟩ := p
      have hlt' : (k : Int) < (l.length : Int) := by omega
      clear hno hp
      by_cases hx : x = z
      · have G : Hid (R = y) := Lib.hid (HY.out hx)
        have hx' : (x == z) = true := by simpa using hx
        go_wp2
        go_ret
        exact ⟨by rw [G.out]; rfl, hb⟩
      · have G := Lib.hid (HN.out hx)
        have hx' : (x == z) = false := by simpa using hx
        go_wp2
        go_roundw
        case rel => exact ⟨k + 1, by omega, by go_num, G.out, hb⟩
        case measure => simp [intOf]; omega
    · obtain rfl : k = l.length := by omega
      have hlt' : ¬ (l.length : Int) < (l.length : Int) := by omega
      have G : Hid (R = -1) := Lib.hid (by rw [← HR.out]; exact num1_miss _ l z h0 hno)
      clear hno
      go_wp2
      go_ret
      exact ⟨by rw [G.out]; rfl, hb⟩

set_option maxHeartbeats 4000000 in
theorem number_true (a : Option Addr) (cap : Nat) (l : Pairs) (z : Int) (w : World) (h : PRow w a l) (hl : l.length ≤ 1000) :
    Calls Try.prog 36 #[.slice a l.length cap, .int .i64 z, .bool true] w fun e w' => e = .returned (.int .i64 (num1 true l z)) ∧ Below w.heap.size w w' := by
  have Hrow := Lib.hid h
  clear h
  obtain ⟨R, hR⟩ : ∃ R, num1 true l z = R := ⟨_, rfl⟩
  have HR := Lib.hid hR
  rw [hR]
  clear hR
  by_cases h0 : l.length = 0
  · have G : Hid (R = z) := Lib.hid (by rw [← HR.out]; exact num1_nil _ l z h0)
    have h0' : ((l.length : Int) == 0) = true := by simpa using h0
    go_enter Try.func36, Try.ntmps36
    go_wp2
    go_ret
    exact ⟨by rw [G.out]; rfl, Below.refl _ _⟩
  have h0' : ((l.length : Int) == 0) = false := by simpa using h0
  go_enter Try.func36, Try.ntmps36
  go_wp2
  go_loopw [7] (fun i wr => ∃ k : Nat, k ≤ l.length ∧ i = .int .i64 k ∧ (∀ j, j < k → (sw true (pt l j)).1 ≠ z) ∧ Below w.heap.size w wr) (fun i _ => l.length - (intOf i).toNat)
  case atStart => exact ⟨0, Nat.zero_le _, rfl, fun j hj => absurd hj (by omega), Below.refl _ _⟩
  case round =>
    obtain ⟨k, hk, rfl, hno, hb⟩ := hrel
    by_cases hlt : k < l.length
    · obtain ⟨b, off, rfl, hbl, c0, c1⟩ := Hrow.out.then hb k hlt
      have Hno := Lib.hid hno
      have HY : Hid ((sw true (pt l k)).1 = z → R = (sw true (pt l k)).2) := Lib.hid (fun h => by rw [← HR.out]; exact num1_hit _ l z k hlt Hno.out h)
      have HN : Hid ((sw true (pt l k)).1 ≠ z → ∀ j, j < k + 1 → (sw true (pt l j)).1 ≠ z) := Lib.hid (fun h j hj => by
        rcases Nat.lt_or_ge j k with h1 | h1
        · exact Hno.out j h1
        · obtain rfl : j = k := by omega
          exact h)
      generalize hp : pt l k = p at *
      obtain ⟨x, y⟩ := p
      have hlt' : (k : Int) < (l.length : Int) := by omega
      clear hno hp
      by_cases hx : y = z
      · have G : Hid (R = x) := Lib.hid (HY.out hx)
        have hx' : (y == z) = true := by simpa using hx
        go_wp2
        go_ret
        exact ⟨by rw [G.out]; rfl, hb⟩
      · have G := Lib.hid (HN.out hx)
        have hx' : (y == z) = false := by simpa using hx
        go_wp2
        go_roundw
        case rel => exact ⟨k + 1, by omega, by go_num, G.out, hb⟩
        case measure => simp [intOf]; omega
    · obtain rfl : k = l.length := by omega
      have hlt' : ¬ (l.length : Int) < (l.length : Int) := by omega
      have G : Hid (R = -1) := Lib.hid (by rw [← HR.out]; exact num1_miss _ l z h0 hno)
      clear hno
      go_wp2
      go_ret
      exact ⟨by rw [G.out]; rfl, hb⟩

theorem number_any (b : Bool) (a : Option Addr) (cap : Nat) (l : Pairs) (z : Int) (w : World) (h : PRow w a l) (hl : l.length ≤ 1000) :
    Calls Try.prog 36 #[.slice a l.length cap, .int .i64 z, .bool b] w fun e w' => e = .returned (.int .i64 (num1 b l z)) ∧ Below w.heap.size w w' := by
  cases b
  · exact number_false a cap l z w h hl
  · exact number_true a cap l z w h hl

namespace D
def badB (b : Bool) (d : Dm) (z : Int) (n k : Nat) : Bool := !(tok b d.lv z && okL b d.ct (C.listTo n k))
theorem badB_succ (b : Bool) (d : Dm) (z : Int) (n k : Nat) : badB b d z n (k + 1) = if C.hasN n k then (badB b d z n k || decide (num1 b d.ct k < 0)) else badB b d z n k := by
  unfold badB
  rw [C.listTo_succ]
  cases h : C.hasN n k
  · simp
  · rw [if_pos rfl, if_pos rfl, okL_snoc]
    have : decide (num1 b d.ct k < 0) = !tok b d.ct k := by
      unfold tok
      by_cases h : 0 ≤ num1 b d.ct k
      · rw [decide_eq_true h, decide_eq_false (by omega)]; rfl
      · rw [decide_eq_false h, decide_eq_true (by omega)]; rfl
    rw [this]
    cases tok b d.lv z <;> cases okL b d.ct (C.listTo n k) <;> cases tok b d.ct k <;> rfl
theorem setT_succ (b : Bool) (ct : Pairs) (n k : Nat) : setL b ct (C.listTo n (k + 1)) = if C.hasN n k then C.put (setL b ct (C.listTo n k)) (num1 b ct k) true else setL b ct (C.listTo n k) := by
  rw [C.listTo_succ]
  cases h : C.hasN n k
  · simp
  · rw [if_pos rfl, if_pos rfl, setL_snoc]
end D

set_option maxHeartbeats 16000000 in
theorem rtell_any (b : Bool) (d : Dm) (z : Int) (n : Nat) (w : World) (h : DOk w d) (hn : n < 2 ^ 240) :
    Calls Try.prog 14 #[.agg d.v, .agg (L.lv z n), .bool b] w fun e w' => e = .returned (.tuple #[.agg (L.lv (d.tellZ z n b) (d.tellN z n b)), .int .i64 (d.tellE z n b)]) ∧ Below w.heap.size w w' := by
  have hb0 : Below w.heap.size w (((w.alloc (.cells d.v 25)).alloc (.cells (L.lv z n) 29)).alloc (.cells (L.lv 0 0) 29)) := (((Below.refl _ w).alloc (Nat.le_refl _) _).alloc (by simp) _).alloc (by simp; omega) _
  have hT : TB (((w.alloc (.cells d.v 25)).alloc (.cells (L.lv z n) 29)).alloc (.cells (L.lv 0 0) 29)) w.heap.size d z n := by
    refine ⟨?_, ?_, ?_, h.below hb0⟩
    · have := heap_alloc_new w (.cells d.v 25)
      exact (Below.heap_alloc _ _ _ (by simp; omega)).trans ((Below.heap_alloc _ _ _ (by simp)).trans this)
    · have := LabAt.new (w.alloc (.cells d.v 25)) z n
      have := this.alloc (.cells (L.lv 0 0) 29)
      simpa using this
    · have := LabAt.new ((w.alloc (.cells d.v 25)).alloc (.cells (L.lv z n) 29)) 0 0
      simpa using this
  obtain ⟨E, hE⟩ : ∃ E, d.tellE z n b = E := ⟨_, rfl⟩
  obtain ⟨Z, hZ⟩ : ∃ Z, d.tellZ z n b = Z := ⟨_, rfl⟩
  obtain ⟨N, hN⟩ : ∃ N, d.tellN z n b = N := ⟨_, rfl⟩
  have HE := Lib.hid hE
  have HZ := Lib.hid hZ
  have HN := Lib.hid hN
  rw [hE, hZ, hN]
  clear hE hZ hN
  have HT := Lib.hid hT
  have hdv := Lib.hid (show d.v = #[.int .u32 d.num, .slice d.la d.lv.length d.lc, .slice d.ca d.ct.length d.cc] from rfl)
  have hcall : Hid (Calls Try.prog 17 #[.agg d.v] (((w.alloc (.cells d.v 25)).alloc (.cells (L.lv z n) 29)).alloc (.cells (L.lv 0 0) 29)) fun e w' => e = .returned (.bool d.right) ∧ Below (((w.alloc (.cells d.v 25)).alloc (.cells (L.lv z n) 29)).alloc (.cells (L.lv 0 0) 29)).heap.size (((w.alloc (.cells d.v 25)).alloc (.cells (L.lv z n) 29)).alloc (.cells (L.lv 0 0) 29)) w') := Lib.hid (rright_any d _ (h.below hb0))
  have k0 := hT.k0
  have k1 := hT.k1
  have k2 := hT.k2
  rw [hdv.out]
  rw [hdv.out] at k0 k1 k2 HT hb0 hcall
  clear hT
  go_enter Try.func14, Try.ntmps14
  go_wp2_with (rw [L.zero31])
  refine hcall.out.mono ?_
  rintro e w1 ⟨rfl, hb1⟩
  have HT1 := Lib.hid (HT.out.below hb1)
  have hbw1 := hb0.trans (hb1.mono hb0.size)
  have hz1 := hbw1.size
  clear hcall hb1 HT hb0 k0 k1 k2
  by_cases hbad : (d.right && lr z) = false
  · have GE : Hid (E = 1) := Lib.hid (by rw [← HE.out]; unfold Dm.tellE; rw [hbad]; rfl)
    have GZ : Hid (Z = 0) := Lib.hid (by rw [← HZ.out]; unfold Dm.tellZ; rw [hbad]; rfl)
    have GN : Hid (N = 0) := Lib.hid (by rw [← HN.out]; unfold Dm.tellN; rw [hbad]; rfl)
    have hlev := HT1.out.la.level
    cases hr : d.right
    · go_wp2_with (rw [L.zero31]; refine store_lab rfl rfl rfl rfl HT1.out.rs ?_; intro w9 hs ho; have HS9 := Lib.hid hs; have HO9 := Lib.hid ho; clear hs ho)
      exact ret_lab_tmp rfl rfl rfl rfl HS9.out ⟨by rw [GE.out, GZ.out, GN.out]; rfl, hbw1.trans (HO9.out.below (by omega))⟩
    · have hl : z < 0 ∨ 255 < z := by
        rw [hr, Bool.true_and] at hbad
        unfold lr at hbad
        rw [Bool.and_eq_false_iff, decide_eq_false_iff_not, decide_eq_false_iff_not] at hbad
        omega
      by_cases hz0 : z < 0
      · go_wp2_with (rw [L.zero31]; refine store_lab rfl rfl rfl rfl HT1.out.rs ?_; intro w9 hs ho; have HS9 := Lib.hid hs; have HO9 := Lib.hid ho; clear hs ho)
        exact ret_lab_tmp rfl rfl rfl rfl HS9.out ⟨by rw [GE.out, GZ.out, GN.out]; rfl, hbw1.trans (HO9.out.below (by omega))⟩
      · have hz2 : 255 < z := by omega
        go_wp2_with (rw [L.zero31]; refine store_lab rfl rfl rfl rfl HT1.out.rs ?_; intro w9 hs ho; have HS9 := Lib.hid hs; have HO9 := Lib.hid ho; clear hs ho)
        exact ret_lab_tmp rfl rfl rfl rfl HS9.out ⟨by rw [GE.out, GZ.out, GN.out]; rfl, hbw1.trans (HO9.out.below (by omega))⟩
  · have hgood : (d.right && lr z) = true := by simpa using hbad
    have HG := Lib.hid hgood
    obtain ⟨hr, hl⟩ := Bool.and_eq_true_iff.1 hgood
    have hzr : 0 ≤ z ∧ z ≤ 255 := by
      unfold lr at hl
      rw [Bool.and_eq_true, decide_eq_true_eq, decide_eq_true_eq] at hl
      exact hl
    have hz0 : ¬ z < 0 := by omega
    have hz2 : ¬ 255 < z := by omega
    have hlev := HT1.out.la.level
    have k1 := HT1.out.k1
    rw [hr]
    clear hbad hgood hr hl hzr
    go_wp2_with fail
    refine (number_any b d.la d.lc d.lv z w1 HT1.out.ok.lr HT1.out.ok.ln).mono ?_
    rintro e w4 ⟨rfl, hb4⟩
    have HT4 := Lib.hid (HT1.out.below hb4)
    have hbw4 := hbw1.trans (hb4.mono hz1)
    have hz4 := hbw4.size
    have HN4 := Lib.hid (LabAt.new w4 0 0)
    have hbn4 : Below w4.heap.size w4 (w4.alloc (.cells (L.lv 0 0) 29)) := (Below.refl _ _).alloc (Nat.le_refl _) _
    have Hb0 : Hid (decide (num1 b d.lv z < 0) = badB b d z n 0) := Lib.hid (by
      unfold badB tok
      by_cases h : 0 ≤ num1 b d.lv z
      · rw [decide_eq_true h, decide_eq_false (by omega)]; rfl
      · rw [decide_eq_false h, decide_eq_true (by omega)]; rfl)
    have HZt : Hid (badB b d z n 240 = false → E = 0 ∧ Z = num1 b d.lv z ∧ N = setL b d.ct (C.listTo n 240)) := Lib.hid (fun hf => by
      have hfit : d.fit z n b = true := by simpa [badB, Dm.fit, C.list] using hf
      refine ⟨?_, ?_, ?_⟩
      · rw [← HE.out]; unfold Dm.tellE; rw [HG.out, hfit]; rfl
      · rw [← HZ.out]; unfold Dm.tellZ; rw [HG.out, hfit]; rfl
      · rw [← HN.out]; unfold Dm.tellN; rw [HG.out, hfit]; rfl)
    have HZf : Hid (badB b d z n 240 = true → E = 6 ∧ Z = 0 ∧ N = 0) := Lib.hid (fun hf => by
      have hfit : d.fit z n b = false := by
        unfold badB at hf
        unfold Dm.fit C.list
        cases h : (tok b d.lv z && okL b d.ct (C.listTo n 240))
        · rfl
        · rw [h] at hf; cases hf
      refine ⟨?_, ?_, ?_⟩
      · rw [← HE.out]; unfold Dm.tellE; rw [HG.out, hfit]; rfl
      · rw [← HZ.out]; unfold Dm.tellZ; rw [HG.out, hfit]; rfl
      · rw [← HN.out]; unfold Dm.tellN; rw [HG.out, hfit]; rfl)
    have Hbs := Lib.hid (badB_succ b d z n)
    have Hss := Lib.hid (setT_succ b d.ct n)
    have Hs0 : Hid (setL b d.ct (C.listTo n 0) = 0) := Lib.hid rfl
    generalize num1 b d.lv z = y at *
    generalize badB b d z n = bad at *
    clear hb4 HT1 hbw1 hz1 HE HZ HN hlev k1 HG
    go_wp2_with (rw [L.zero31, L.zero31v]; refine store_lab rfl rfl rfl rfl HN4.out ?_; intro w5 hs ho; have HS5 := Lib.hid hs; have hb5 := hbn4.trans (ho.below (Nat.le_refl _)); have hlev5 := hs.level; clear hs ho)
    clear HN4 hbn4 hlev5
    rw [Hb0.out]
    go_loopw [9, 10] (fun q i wr => ∃ k : Nat, k ≤ 240 ∧ i = .int .i64 k ∧ q = .bool (bad k) ∧ LabAt wr w4.heap.size y (setL b d.ct (C.listTo n k)) ∧ Below w4.heap.size w4 wr) (fun _ i _ => 240 - (intOf i).toNat)
    case atStart => exact ⟨0, by omega, rfl, rfl, by rw [Hs0.out]; exact HS5.out, hb5⟩
    case round =>
      obtain ⟨k, hk, rfl, rfl, hlab, hbr⟩ := hrel
      have hrs := hbr.size
      have HLab := Lib.hid hlab
      have HTr := Lib.hid (HT4.out.below hbr)
      have Hb1 := Lib.hid (Hbs.out k)
      have Hs1 := Lib.hid (Hss.out k)
      clear hlab hb5 HS5 Hs0
      by_cases hlt : k < 240
      · have hk' : (k : Int) < 240 := by omega
        have HH := Lib.hid (fun w => RHas_in n k w hlt _ rfl)
        generalize setL b d.ct (C.listTo n k) = m0 at *
        generalize C.hasN n k = q at *
        generalize hbk : bad k = bk at *
        clear hbk
        go_wp2_with (refine load_labcats rfl rfl rfl HTr.out.la ?_)
        refine (HH.out _).mono ?_
        rintro e w7 ⟨rfl, hb7⟩
        have HT7 := Lib.hid (HTr.out.below hb7)
        have HL7 := Lib.hid (HLab.out.below hb7 HLab.out.lt)
        have hbr7 := hbr.trans (hb7.mono hrs)
        have hz7 := hbr7.size
        have k2 := HT7.out.k2
        clear hb7 HTr HLab HH
        cases q
        · go_wp2
          go_roundw
          case rel => exact ⟨k + 1, by omega, by go_num, by rw [Hb1.out]; rfl, by rw [Hs1.out]; exact HL7.out, hbr7⟩
          case measure => simp [intOf]; omega
        · go_wp2_with fail
          refine (number_any b d.ca d.cc d.ct k w7 HT7.out.ok.cr HT7.out.ok.cn).mono ?_
          rintro e w8 ⟨rfl, hb8⟩
          have HL8 := Lib.hid (HL7.out.below hb8 HL7.out.lt)
          have hbr8 := hbr7.trans (hb8.mono hz7)
          have hz8 := hbr8.size
          clear hb8 HT7 HL7 hbr7 hz7 k2 hbr hrs
          generalize num1 b d.ct k = x at *
          cases bk
          · go_wp2_with (refine load_labcats rfl rfl rfl HL8.out ?_)
            refine (Put_any m0 x true _).mono ?_
            rintro e w9 ⟨rfl, hb9⟩
            have HL9 := Lib.hid (HL8.out.below hb9 HL8.out.lt)
            have hbr9 := hbr8.trans (hb9.mono hz8)
            clear hb9 HL8 hbr8 hz8
            go_wp2_with (refine store_labcats rfl rfl rfl rfl HL9.out ?_; intro wA hs ho; have HSA := Lib.hid hs; have HOA := Lib.hid ho; clear hs ho)
            go_roundw
            case rel => exact ⟨k + 1, by omega, by go_num, by rw [Hb1.out]; rfl, by rw [Hs1.out]; exact HSA.out, hbr9.trans (HOA.out.below (Nat.le_refl _))⟩
            case measure => simp [intOf]; omega
          · go_wp2_with (refine load_labcats rfl rfl rfl HL8.out ?_)
            refine (Put_any m0 x true _).mono ?_
            rintro e w9 ⟨rfl, hb9⟩
            have HL9 := Lib.hid (HL8.out.below hb9 HL8.out.lt)
            have hbr9 := hbr8.trans (hb9.mono hz8)
            clear hb9 HL8 hbr8 hz8
            go_wp2_with (refine store_labcats rfl rfl rfl rfl HL9.out ?_; intro wA hs ho; have HSA := Lib.hid hs; have HOA := Lib.hid ho; clear hs ho)
            go_roundw
            case rel => exact ⟨k + 1, by omega, by go_num, by rw [Hb1.out]; rfl, by rw [Hs1.out]; exact HSA.out, hbr9.trans (HOA.out.below (Nat.le_refl _))⟩
            case measure => simp [intOf]; omega
      · obtain rfl : k = 240 := by omega
        have hbz := hbw4.trans (hbr.mono hz4)
        generalize hbk : bad 240 = bk at *
        cases bk
        · have GG := Lib.hid (HZt.out rfl)
          have GE := Lib.hid GG.out.1
          have GZ := Lib.hid GG.out.2.1
          have GN := Lib.hid GG.out.2.2
          clear GG hbk
          go_wp2_with (first | (refine load_lab rfl rfl rfl HLab.out ?_) | (refine store_lab rfl rfl rfl rfl HTr.out.rs ?_; intro w9 hs ho; have HS9 := Lib.hid hs; have HO9 := Lib.hid ho; clear hs ho))
          exact ret_lab_tmp rfl rfl rfl rfl HS9.out ⟨by rw [GE.out, GZ.out, GN.out]; rfl, hbz.trans (HO9.out.below (by omega))⟩
        · have GG := Lib.hid (HZf.out rfl)
          have GE := Lib.hid GG.out.1
          have GZ := Lib.hid GG.out.2.1
          have GN := Lib.hid GG.out.2.2
          clear GG hbk
          go_wp2_with (rw [L.zero31]; refine store_lab rfl rfl rfl rfl HTr.out.rs ?_; intro w9 hs ho; have HS9 := Lib.hid hs; have HO9 := Lib.hid ho; clear hs ho)
          exact ret_lab_tmp rfl rfl rfl rfl HS9.out ⟨by rw [GE.out, GZ.out, GN.out]; rfl, hbz.trans (HO9.out.below (by omega))⟩

set_option maxHeartbeats 4000000 in
theorem DOut_any (d : Dm) (z : Int) (n : Nat) (w : World) (h : DOk w d) (hn : n < 2 ^ 240) (hz : I64 z) :
    Calls Try.prog 12 #[.agg d.v, .agg (L.lv z n)] w fun e w' => e = .returned (.tuple #[.agg (L.lv (d.tellZ z n false) (d.tellN z n false)), .int .i64 (d.tellE z n false)]) ∧ Below w.heap.size w w' := by
  have hb0 : Below w.heap.size w (((w.alloc (.cells d.v 25)).alloc (.cells (L.lv z n) 29)).alloc (.cells (L.lv 0 0) 29)) := (((Below.refl _ w).alloc (Nat.le_refl _) _).alloc (by simp) _).alloc (by simp; omega) _
  have hT : TB (((w.alloc (.cells d.v 25)).alloc (.cells (L.lv z n) 29)).alloc (.cells (L.lv 0 0) 29)) w.heap.size d z n := by
    refine ⟨?_, ?_, ?_, h.below hb0⟩
    · have := heap_alloc_new w (.cells d.v 25)
      exact (Below.heap_alloc _ _ _ (by simp; omega)).trans ((Below.heap_alloc _ _ _ (by simp)).trans this)
    · have := LabAt.new (w.alloc (.cells d.v 25)) z n
      have := this.alloc (.cells (L.lv 0 0) 29)
      simpa using this
    · have := LabAt.new ((w.alloc (.cells d.v 25)).alloc (.cells (L.lv z n) 29)) 0 0
      simpa using this
  have hc := tell_any false d z n _ (h.below hb0) hn hz
  rw [show lookV false = .func (.func 34) #[] #[] from rfl] at hc
  have HC := Lib.hid hc
  have HT := Lib.hid hT
  have k0 := hT.k0
  have k1 := hT.k1
  have k2 := hT.k2
  have hdv := Lib.hid (show d.v = #[.int .u32 d.num, .slice d.la d.lv.length d.lc, .slice d.ca d.ct.length d.cc] from rfl)
  rw [hdv.out]
  rw [hdv.out] at k0 k1 k2 HT hb0 HC
  clear hT hc
  generalize d.tellZ z n false = Z at *
  generalize d.tellN z n false = N at *
  generalize d.tellE z n false = E at *
  go_enter Try.func12, Try.ntmps12
  go_wp2_with (first | (rw [L.zero31]; refine load_lab rfl rfl rfl HT.out.la ?_) | (refine load_lab rfl rfl rfl HT.out.la ?_))
  refine HC.out.mono ?_
  rintro e w2 ⟨rfl, hb2⟩
  have HT2 := Lib.hid (HT.out.below hb2)
  have hbw2 := hb0.trans (hb2.mono hb0.size)
  clear hb2 HC HT hb0 k0 k1 k2
  go_wp2_with (refine store_lab rfl rfl rfl rfl HT2.out.rs ?_; intro w9 hs ho; have HS9 := Lib.hid hs; have HO9 := Lib.hid ho; clear hs ho)
  exact ret_lab_tmp rfl rfl rfl rfl HS9.out ⟨rfl, hbw2.trans (HO9.out.below (by omega))⟩

set_option maxHeartbeats 4000000 in
theorem DBack_any (d : Dm) (z : Int) (n : Nat) (w : World) (h : DOk w d) (hn : n < 2 ^ 240) (hz : I64 z) :
    Calls Try.prog 13 #[.agg d.v, .agg (L.lv z n)] w fun e w' => e = .returned (.tuple #[.agg (L.lv (d.tellZ z n true) (d.tellN z n true)), .int .i64 (d.tellE z n true)]) ∧ Below w.heap.size w w' := by
  have hb0 : Below w.heap.size w (((w.alloc (.cells d.v 25)).alloc (.cells (L.lv z n) 29)).alloc (.cells (L.lv 0 0) 29)) := (((Below.refl _ w).alloc (Nat.le_refl _) _).alloc (by simp) _).alloc (by simp; omega) _
  have hT : TB (((w.alloc (.cells d.v 25)).alloc (.cells (L.lv z n) 29)).alloc (.cells (L.lv 0 0) 29)) w.heap.size d z n := by
    refine ⟨?_, ?_, ?_, h.below hb0⟩
    · have := heap_alloc_new w (.cells d.v 25)
      exact (Below.heap_alloc _ _ _ (by simp; omega)).trans ((Below.heap_alloc _ _ _ (by simp)).trans this)
    · have := LabAt.new (w.alloc (.cells d.v 25)) z n
      have := this.alloc (.cells (L.lv 0 0) 29)
      simpa using this
    · have := LabAt.new ((w.alloc (.cells d.v 25)).alloc (.cells (L.lv z n) 29)) 0 0
      simpa using this
  have hc := tell_any true d z n _ (h.below hb0) hn hz
  rw [show lookV true = .func (.func 35) #[] #[] from rfl] at hc
  have HC := Lib.hid hc
  have HT := Lib.hid hT
  have k0 := hT.k0
  have k1 := hT.k1
  have k2 := hT.k2
  have hdv := Lib.hid (show d.v = #[.int .u32 d.num, .slice d.la d.lv.length d.lc, .slice d.ca d.ct.length d.cc] from rfl)
  rw [hdv.out]
  rw [hdv.out] at k0 k1 k2 HT hb0 HC
  clear hT hc
  generalize d.tellZ z n true = Z at *
  generalize d.tellN z n true = N at *
  generalize d.tellE z n true = E at *
  go_enter Try.func13, Try.ntmps13
  go_wp2_with (first | (rw [L.zero31]; refine load_lab rfl rfl rfl HT.out.la ?_) | (refine load_lab rfl rfl rfl HT.out.la ?_))
  refine HC.out.mono ?_
  rintro e w2 ⟨rfl, hb2⟩
  have HT2 := Lib.hid (HT.out.below hb2)
  have hbw2 := hb0.trans (hb2.mono hb0.size)
  clear hb2 HC HT hb0 k0 k1 k2
  go_wp2_with (refine store_lab rfl rfl rfl rfl HT2.out.rs ?_; intro w9 hs ho; have HS9 := Lib.hid hs; have HO9 := Lib.hid ho; clear hs ho)
  exact ret_lab_tmp rfl rfl rfl rfl HS9.out ⟨rfl, hbw2.trans (HO9.out.below (by omega))⟩
#print axioms rtell_any
#print axioms DOut_any
#print axioms DBack_any
end Go.Proofs.Ytdipoaekdafbeaa
