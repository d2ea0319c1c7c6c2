/- The walk of what reads a set's text. -/
import Derived.Test.YtmaddfjgiflkbaaDoorCtSpan
import Derived.Lib.Split
namespace Go.Proofs.YtmaddfjgiflkbaaDoor
set_option maxRecDepth 100000
open Go.RowKit
set_option maxRecDepth 100000
set_option linter.unusedVariables false

namespace C
/-- The number that a text is read as. -/
def numOf (s : ByteArray) : Nat := match Lib.atoiAll s.data.toList with
  | .ok v => v.toNat
  | _ => 0
def spanOk (p : ByteArray) : Bool := catOk (headOf p) && catOk (tailOf p)
/-- A set with some categories more, from a on. -/
def addR (c a : Nat) : Nat → Nat
  | 0 => c
  | d + 1 => addR c a d ||| one (a + d)
def cntR (p : ByteArray) : Nat := numOf (tailOf p) + 1 - numOf (headOf p)
def foldS : List ByteArray → Nat → Option Nat
  | [], c => some c
  | p :: ps, c => if spanOk p then foldS ps (addR c (numOf (headOf p)) (cntR p)) else none
def parts (s : ByteArray) : List ByteArray := Lib.splitB ⟨#[44]⟩ 0 (min 241 (s.size + 1) - 1) s
/-- The set that a text is read as. -/
def parse (s : ByteArray) : Option Nat := if s = ⟨#[45]⟩ then some 0 else match foldS (parts s) 0 with
  | some c => if bs (text c) = s then some c else none
  | none => none
def parseIs (s : ByteArray) : Array Value := match parse s with
  | some c => #[.agg (cv c), .bool true]
  | none => #[.agg (cv 0), .bool false]
theorem addR_lt (c a : Nat) (h : c < 2 ^ 240) : ∀ d, addR c a d < 2 ^ 240
  | 0 => h
  | d + 1 => or_lt (addR_lt c a h d) (one_lt _)
theorem foldS_step (ps : List ByteArray) (j c : Nat) (x : ByteArray) (h : ps[j]? = some x) : foldS (ps.drop j) c = if spanOk x then foldS (ps.drop (j + 1)) (addR c (numOf (headOf x)) (cntR x)) else none := by
  have hj : j < ps.length := (List.getElem?_eq_some_iff.1 h).1
  rw [List.drop_eq_getElem_cons hj]
  rw [List.getElem?_eq_getElem hj] at h
  cases h
  rfl
theorem foldS_lt : ∀ (ps : List ByteArray) (c x : Nat), c < 2 ^ 240 → foldS ps c = some x → x < 2 ^ 240
  | [], c, x, hc, h => by simp [foldS] at h; omega
  | p :: ps, c, x, hc, h => by
    unfold foldS at h
    split at h
    · exact foldS_lt ps _ x (addR_lt _ _ hc _) h
    · cases h
theorem parse_lt (s : ByteArray) (x : Nat) (h : parse s = some x) : x < 2 ^ 240 := by
  unfold parse at h
  split at h
  · simp at h; subst h; exact Nat.pow_pos (by decide)
  · split at h
    · rename_i c hc
      split at h
      · simp at h; subst h; exact foldS_lt _ _ _ (Nat.pow_pos (by decide)) hc
      · cases h
    · cases h
theorem num_of_ok {s : ByteArray} {k : Int} (h : Lib.atoiAll s.data.toList = .ok k) : numOf s = k.toNat := by unfold numOf; rw [h]
theorem split_size (sep : ByteArray) : ∀ (k : Nat) (s : ByteArray) (x : ByteArray), x ∈ Lib.splitB sep 0 k s → x.size ≤ s.size
  | 0, s, x, h => by simp [Lib.splitB] at h; subst h; exact Nat.le_refl _
  | k + 1, s, x, h => by
    unfold Lib.splitB at h
    split at h
    · simp at h; subst h; exact Nat.le_refl _
    · rcases List.mem_cons.1 h with rfl | h
      · rw [ByteArray.size_extract]; omega
      · have := split_size sep k _ x h
        rw [ByteArray.size_extract] at this
        omega
theorem cells_at (l : List ByteArray) (N j : Nat) (x : ByteArray) (h : l[j]? = some x) : (Lib.cellsOf l N)[j]? = some (.string x) := by
  have hj : j < l.length := (List.getElem?_eq_some_iff.1 h).1
  unfold Lib.cellsOf
  rw [List.getElem?_toArray, List.getElem?_append_left (by simpa using hj), List.getElem?_map, h]
  rfl
theorem cut_size (s : ByteArray) : (headOf s).size ≤ s.size ∧ (tailOf s).size ≤ s.size := by
  have h : (Lib.cut s.data.toList [45]).1.length ≤ s.data.toList.length ∧ (Lib.cut s.data.toList [45]).2.1.length ≤ s.data.toList.length := by
    unfold Lib.cut
    split <;> simp <;> omega
  have e : s.data.toList.length = s.size := Array.length_toList
  rw [e] at h
  unfold headOf tailOf headOf
  constructor
  · show (Lib.cut s.data.toList [45]).1.toArray.size ≤ _
    simpa using h.1
  · split
    · show (Lib.cut s.data.toList [45]).2.1.toArray.size ≤ _
      simpa using h.2
    · show (Lib.cut s.data.toList [45]).1.toArray.size ≤ _
      simpa using h.1
end C

/-- The parts that a call laid. -/
def Parts (w : World) (g : Nat) (ps : List ByteArray) : Prop := g < w.heap.size ∧ ∀ j x, ps[j]? = some x → w.cell? ⟨g, j, none⟩ = some (.string x)
theorem Parts.below {w w' : World} {g : Nat} {ps : List ByteArray} (h : Parts w g ps) (hb : Below w.heap.size w w') : Parts w' g ps :=
  ⟨Nat.lt_of_lt_of_le h.1 hb.size, fun j x hx => (hb.cell (p := ⟨g, j, none⟩) h.1).trans (h.2 j x hx)⟩
theorem Parts.only {w w' : World} {g g' : Nat} {ps : List ByteArray} (h : Parts w g ps) (ho : Only g' w w') (hg : g ≠ g') : Parts w' g ps :=
  ⟨by rw [ho.size]; exact h.1, fun j x hx => by
    have := h.2 j x hx
    unfold World.cell? at *
    have e := ho.block g hg
    simp only at *
    rw [e]
    exact this⟩
theorem LaidF.only {w w' : World} {g : Nat} (h : LaidF w) (ho : Only g w w') (hg : 4 ≤ g) : LaidF w' := by
  obtain ⟨h0, ⟨m, h1⟩, ⟨t, p, h2⟩, ⟨t', p', h3⟩⟩ := h
  have hb : Below 4 w w' := ho.below hg
  exact ⟨h0.only ho hg, ⟨m, (hb.cell (p := ⟨0, 0, none⟩) (by show 0 < 4; omega)).trans h1⟩, ⟨t, p, (hb.cell (p := ⟨1, 0, none⟩) (by show 1 < 4; omega)).trans h2⟩, ⟨t', p', (hb.cell (p := ⟨2, 0, none⟩) (by show 2 < 4; omega)).trans h3⟩⟩
theorem irow_one (w : World) (k : Nat) : IRow (w.alloc (.cells #[.int .i64 (k : Int)] 3)) (some ⟨w.heap.size, 0, none⟩) [(k : Int)] := fun _ => by
  refine ⟨w.heap.size, 0, rfl, by simp, fun q hq => ?_⟩
  obtain rfl : q = 0 := by simpa using hq
  simp

set_option maxHeartbeats 8000000 in
theorem Parse_any (s : ByteArray) (w : World) (L : LaidF w) (hl : s.size ≤ 100000) :
    Calls Tryd.prog 25 #[.string s] w fun e w' => e = .returned (.tuple (C.parseIs s)) ∧ Below w.heap.size w w' := by
  obtain ⟨m, hm⟩ := L.most
  have hw4 := L.tabl.size
  obtain ⟨R, hR⟩ : ∃ R, C.parseIs s = R := ⟨_, rfl⟩
  have HR := Lib.hid hR
  rw [hR]
  clear hR
  have HZ := Lib.hid (SetAt.new w 0)
  by_cases h45 : s = ⟨#[45]⟩
  · have G : Hid (C.parseIs s = #[.agg (C.cv 0), .bool true]) := Lib.hid (by unfold C.parseIs C.parse; rw [if_pos h45])
    subst h45
    clear L
    go_enter Tryd.func25, Tryd.ntmps25
    go_wp2_with (rw [C.zero30]; refine store_set rfl rfl rfl rfl HZ.out ?_; intro w2 hs2 ho2; have HS2 := Lib.hid hs2; have HO2 := Lib.hid ho2; clear hs2 ho2)
    exact ret_set_tmp rfl rfl rfl rfl HS2.out ⟨by rw [← HR.out, G.out]; rfl, ((Below.refl _ w).alloc (Nat.le_refl _) _).trans (HO2.out.below (Nat.le_refl _))⟩
  have hne : (s.toList == [45]) = false := by
    rw [beq_eq_false_iff_ne]
    intro h
    rw [Lib.toList_data] at h
    exact h45 (ByteArray.ext (Array.toList_inj.1 h))
  have HP : Hid (C.parse s = match C.foldS (C.parts s) 0 with | some c => if bs (C.text c) = s then some c else none | none => none) := Lib.hid (by unfold C.parse; rw [if_neg h45])
  have HIs : Hid (C.parseIs s = match C.parse s with | some c => #[.agg (C.cv c), .bool true] | none => #[.agg (C.cv 0), .bool false]) := Lib.hid rfl
  have HPL : Hid ((C.parts s).length ≤ 241) := Lib.hid (by
    have := Lib.splitB_length_le ⟨#[44]⟩ 0 (min 241 (s.size + 1) - 1) s
    unfold C.parts; omega)
  have HPS : Hid (∀ x ∈ C.parts s, x.size ≤ 100000) := Lib.hid (fun x hx => by have := C.split_size _ _ _ _ hx; omega)
  have HC := Lib.hid ((SetAt.new w 0).alloc (.cells (C.cv 0) 23))
  have HC1 : Hid (SetAt ((w.alloc (.cells (C.cv 0) 23)).alloc (.cells (C.cv 0) 23)) (w.heap.size + 1) 0) := Lib.hid (by have := SetAt.new (w.alloc (.cells (C.cv 0) 23)) 0; simpa using this)
  have hb2 : Below w.heap.size w ((w.alloc (.cells (C.cv 0) 23)).alloc (.cells (C.cv 0) 23)) := ((Below.refl _ w).alloc (Nat.le_refl _) _).alloc (by simp) _
  have HL2 := Lib.hid (L.below hb2)
  obtain ⟨m2, hm2⟩ := HL2.out.most
  have hSp := Tryd.strings_SplitN s ⟨#[44]⟩ 241 m2 ((w.alloc (.cells (C.cv 0) 23)).alloc (.cells (C.cv 0) 23)) (by omega) hm2 (by decide) (by decide) (by decide)
  rw [show Lib.splitB ⟨#[44]⟩ 0 (min 241 (s.size + 1) - 1) s = C.parts s from rfl] at hSp
  have HSp := Lib.hid hSp
  clear hSp hm hm2 L h45
  generalize C.parts s = ps at *
  go_enter Tryd.func25, Tryd.ntmps25
  go_wp2_with fail
  rw [C.zero30]
  refine HSp.out.mono ?_
  rintro e w1 ⟨rfl, hw1⟩
  have hP1 : Parts w1 (w.heap.size + 1 + 1) ps := by
    subst hw1
    refine ⟨by simp, fun j x hx => ?_⟩
    have h1 := cell_of_row (((w.alloc (.cells (C.cv 0) 23)).alloc (.cells (C.cv 0) 23)).alloc (.cells (Lib.cellsOf ps (min 241 (s.size + 1))) 9)) (w.heap.size + 1 + 1) j _ _ (0, 0) (by have := heap_alloc_new ((w.alloc (.cells (C.cv 0) 23)).alloc (.cells (C.cv 0) 23)) (.cells (Lib.cellsOf ps (min 241 (s.size + 1))) 9); simpa using this)
    rw [h1]
    exact C.cells_at ps _ j x hx
  have hb21 : Below ((w.alloc (.cells (C.cv 0) 23)).alloc (.cells (C.cv 0) 23)).heap.size ((w.alloc (.cells (C.cv 0) 23)).alloc (.cells (C.cv 0) 23)) w1 := by subst hw1; exact (Below.refl _ _).alloc (Nat.le_refl _) _
  have hA1 := HC.out.below hb21 HC.out.lt
  have hC1 := HC1.out.below hb21 HC1.out.lt
  have hL1 := HL2.out.below hb21
  have hbw1 := hb2.trans (hb21.mono hb2.size)
  have hg2 : ((w.alloc (.cells (C.cv 0) 23)).alloc (.cells (C.cv 0) 23)).heap.size = w.heap.size + 1 + 1 := by simp
  simp only [hg2]
  clear hw1 hb21 HC HC1 HL2 hb2 HSp hg2 HZ
  generalize min 241 (s.size + 1) = cap at *
  go_wp2
  go_loopw [17] (fun i wr => ∃ (j c : Nat), j ≤ ps.length ∧ i = .int .i64 j ∧ c < 2 ^ 240 ∧ C.foldS ps 0 = C.foldS (ps.drop j) c ∧ SetAt wr (w.heap.size + 1) c ∧ SetAt wr w.heap.size 0 ∧ Parts wr (w.heap.size + 1 + 1) ps ∧ LaidF wr ∧ Below w.heap.size w wr) (fun i _ => ps.length - (intOf i).toNat)
  case atStart => exact ⟨0, 0, Nat.zero_le _, rfl, Nat.pow_pos (by decide), by rw [List.drop_zero], hC1, hA1, hP1, hL1, hbw1⟩
  case round =>
    obtain ⟨j, c, hj, rfl, hc, hf, hC, hA, hP, hL, hb⟩ := hrel
    clear hC1 hA1 hP1 hL1 hbw1
    have hbs := hb.size
    have HC := Lib.hid hC
    have HA := Lib.hid hA
    have HPt := Lib.hid hP
    have HL := Lib.hid hL
    have zC := hC.lt
    have zA := hA.lt
    have zP := hP.1
    have Hlt := Lib.hid hc
    have hpl := HPL.out
    clear hC hA hL hc
    by_cases hlt : j < ps.length
    · obtain ⟨x, hx⟩ : ∃ x, ps[j]? = some x := ⟨_, List.getElem?_eq_getElem hlt⟩
      have hcell := hP.2 j x hx
      have hxs := HPS.out x (List.mem_of_getElem? hx)
      have hst := C.foldS_step ps j c x hx
      have Hst := Lib.hid (hf.trans hst)
      have hlt' : (j : Int) < (ps.length : Int) := by omega
      have hcs := C.cut_size x
      have HSpan := Lib.hid (fun wx Lx => span_any x wx Lx hxs (by omega) (by omega))
      have hj0 : (0 : Int) ≤ (j : Int) := by omega
      clear hP hf hst hx hcs
      go_wp2_with fail
      refine (HSpan.out _ HL.out).mono ?_
      rintro e w2 ⟨a, b, rfl, ha, hbb, hb2⟩
      have HC2 := Lib.hid (HC.out.below hb2 zC)
      have HA2 := Lib.hid (HA.out.below hb2 zA)
      have HP2 := Lib.hid (HPt.out.below hb2)
      have HL2 := Lib.hid (HL.out.below hb2)
      have hbw2 := hb.trans (hb2.mono hbs)
      have hbs2 := hbw2.size
      have zC2 := HC2.out.lt
      have zA2 := HA2.out.lt
      clear hcell HC HA HPt HL hb2 hb HSpan zC zA zP
      have hsp : C.spanOk x = (C.catOk (C.headOf x) && C.catOk (C.tailOf x)) := rfl
      rw [← hsp]
      cases hok : C.spanOk x
      · have Hno : Hid (R = #[.agg (C.cv 0), .bool false]) := Lib.hid (by rw [← HR.out, HIs.out, HP.out, Hst.out, hok]; rfl)
        clear hsp hok
        go_wp2_with (rw [C.zero30]; refine store_set rfl rfl rfl rfl HA2.out ?_; intro w3 hs3 ho3; have HS3 := Lib.hid hs3; have HO3 := Lib.hid ho3; clear hs3 ho3)
        exact ret_set_tmp rfl rfl rfl rfl HS3.out ⟨by rw [Hno.out]; rfl, hbw2.trans (HO3.out.below (Nat.le_refl _))⟩
      · have hoo := hok
        rw [hsp, Bool.and_eq_true] at hoo
        obtain ⟨ea, ha0, ha1⟩ := ha hoo.1
        obtain ⟨eb, hb0, hb1⟩ := hbb hoo.2
        have na := C.num_of_ok ea
        have nb := C.num_of_ok eb
        have Hgo : Hid (C.foldS ps 0 = C.foldS (ps.drop (j + 1)) (C.addR c a.toNat (b.toNat + 1 - a.toNat))) := Lib.hid (by rw [Hst.out, hok, if_pos rfl]; unfold C.cntR; rw [na, nb])
        obtain ⟨k, rfl⟩ : ∃ k : Nat, a = k := ⟨a.toNat, by omega⟩
        obtain ⟨l, rfl⟩ : ∃ l : Nat, b = l := ⟨b.toNat, by omega⟩
        simp only [Int.toNat_natCast] at Hgo
        clear hsp hok hoo ha hbb ea eb na nb Hst
        go_wp2
        go_loopw [10] (fun i wq => ∃ d : Nat, d ≤ l + 1 - k ∧ i = .int .i64 ((k + d : Nat) : Int) ∧ SetAt wq (w.heap.size + 1) (C.addR c k d) ∧ SetAt wq w.heap.size 0 ∧ Parts wq (w.heap.size + 1 + 1) ps ∧ LaidF wq ∧ Below w.heap.size w wq) (fun i _ => 500 - (intOf i).toNat)
        case atStart => exact ⟨0, Nat.zero_le _, rfl, HC2.out, HA2.out, HP2.out, HL2.out, hbw2⟩
        case round =>
          obtain ⟨d, hd, rfl, hC3, hA3, hP3, hL3, hb3⟩ := hrel
          clear HC2 HA2 HP2 HL2 hbw2 zC2 zA2
          have hbs3 := hb3.size
          have HC3 := Lib.hid hC3
          have HA3 := Lib.hid hA3
          have HP3 := Lib.hid hP3
          have HL3 := Lib.hid hL3
          have zC3 := hC3.lt
          have zA3 := hA3.lt
          clear hC3 hA3 hP3 hL3
          by_cases hdl : k + d ≤ l
          · obtain ⟨q, hq⟩ : ∃ q, k + d = q := ⟨_, rfl⟩
            have hql : (q : Int) ≤ (l : Int) := by omega
            have Hn := Lib.hid (show C.addR c k (d + 1) = C.addR c k d ||| C.one q from by rw [← hq]; rfl)
            have Hq := Lib.hid hq
            have Hw := Lib.hid (fun r cap w' h => With_any (C.addR c k d) (some ⟨r, 0, none⟩) cap [(q : Int)] w' h (by unfold maxLen; simp))
            have hone : C.plus (C.addR c k d) [(q : Int)] = C.addR c k d ||| C.one q := by unfold C.plus C.oneI; simp
            rw [hone] at Hw
            rw [hq]
            have hq239 : q ≤ 239 := by omega
            clear hone hq
            generalize C.addR c k d = m at *
            go_wp2_with (refine load_set rfl rfl rfl HC3.out ?_)
            refine (Hw.out _ _ _ (irow_one wr q)).mono ?_
            rintro e w5 ⟨rfl, hb5⟩
            have hb35 : Below wr.heap.size wr w5 := ((Below.refl _ wr).alloc (Nat.le_refl _) _).trans (hb5.mono (by simp))
            have HC5 := Lib.hid (HC3.out.below hb35 zC3)
            have HA5 := Lib.hid (HA3.out.below hb35 zA3)
            have HP5 := Lib.hid (HP3.out.below hb35)
            have HL5 := Lib.hid (HL3.out.below hb35)
            have hbw5 := hb3.trans (hb35.mono hbs3)
            clear hb5 hb35 HC3 HA3 HP3 HL3 hb3
            go_wp2_with (refine store_set rfl rfl rfl rfl HC5.out ?_; intro w6 hs6 ho6; have HC6 := Lib.hid hs6; have HO6 := Lib.hid ho6; clear hs6 ho6)
            go_roundw
            case rel => exact ⟨d + 1, by have := Hq.out; omega, by have := Hq.out; rw [show k + (d + 1) = q + 1 by omega]; go_num, by rw [Hn.out]; exact HC6.out, HA5.out.only HO6.out (by omega), HP5.out.only HO6.out (by omega), HL5.out.only HO6.out (by omega), hbw5.trans (HO6.out.below (by omega))⟩
            case measure => simp [intOf]; omega
          · have hdd : d = l + 1 - k := by omega
            have hql : ¬ ((k + d : Nat) : Int) ≤ (l : Int) := by omega
            subst hdd
            obtain ⟨q, hq⟩ : ∃ q, k + (l + 1 - k) = q := ⟨_, rfl⟩
            rw [hq] at hql ⊢
            clear hq
            go_wp2
            go_roundw
            case rel => exact ⟨j + 1, _, by omega, by go_num, C.addR_lt c k Hlt.out _, Hgo.out, HC3.out, HA3.out, HP3.out, HL3.out, hb3⟩
            case measure => simp [intOf]; omega
    · obtain rfl : j = ps.length := by omega
      have hff : C.foldS ps 0 = some c := by rw [hf, List.drop_length]; rfl
      have hlt' : ¬ (ps.length : Int) < (ps.length : Int) := by omega
      have HT := Lib.hid (fun wx Lx => Text_any c wx Lx)
      have HPc : Hid (C.parse s = if bs (C.text c) = s then some c else none) := Lib.hid (by rw [HP.out, hff])
      clear hf hff hP
      generalize bs (C.text c) = t at *
      go_wp2_with (refine load_set rfl rfl rfl HC.out ?_)
      refine (HT.out _ HL.out.tabl).mono ?_
      rintro e w2 ⟨rfl, hb2⟩
      have HC2 := Lib.hid (HC.out.below hb2 zC)
      have HA2 := Lib.hid (HA.out.below hb2 zA)
      have hbw2 := hb.trans (hb2.mono hbs)
      clear HC HA HPt HL hb2 hb zC zA zP
      by_cases hts : t = s
      · have Hyes : Hid (R = #[.agg (C.cv c), .bool true]) := Lib.hid (by rw [← HR.out, HIs.out, HPc.out, if_pos hts])
        subst hts
        go_wp2_with (first | (refine load_set rfl rfl rfl HC2.out ?_) | (refine store_set rfl rfl rfl rfl HA2.out ?_; intro w3 hs3 ho3; have HS3 := Lib.hid hs3; have HO3 := Lib.hid ho3; clear hs3 ho3))
        exact ret_set_tmp rfl rfl rfl rfl HS3.out ⟨by rw [Hyes.out]; rfl, hbw2.trans (HO3.out.below (Nat.le_refl _))⟩
      · have Hno : Hid (R = #[.agg (C.cv 0), .bool false]) := Lib.hid (by rw [← HR.out, HIs.out, HPc.out, if_neg hts])
        have hneq : (t.toList == s.toList) = false := by
          rw [beq_eq_false_iff_ne]
          intro h
          rw [Lib.toList_data, Lib.toList_data] at h
          exact hts (ByteArray.ext (Array.toList_inj.1 h))
        go_wp2_with (rw [C.zero30]; refine store_set rfl rfl rfl rfl HA2.out ?_; intro w3 hs3 ho3; have HS3 := Lib.hid hs3; have HO3 := Lib.hid ho3; clear hs3 ho3)
        exact ret_set_tmp rfl rfl rfl rfl HS3.out ⟨by rw [Hno.out]; rfl, hbw2.trans (HO3.out.below (Nat.le_refl _))⟩
#print axioms Parse_any
end Go.Proofs.YtmaddfjgiflkbaaDoor
