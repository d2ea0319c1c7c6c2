/- The walks of what reads options: one by one, and all of them. -/
import Derived.Test.YtncnildpbccpaaaDoorReaderG
import Derived.Test.YtncnildpbccpaaaDoorOptBuf
import Derived.Test.YtncnildpbccpaaaDoorAppRun
import Derived.Deep.RegionLaw
import Derived.Test.YtncnildpbccpaaaDoorShelf
import Derived.Deep.LoopGhost
import Derived.IntWalk
namespace Go.Proofs.YtncnildpbccpaaaDoor
set_option maxRecDepth 100000
open Go.RowKit

/-- A list's bytes as a text. -/
def ba (l : List UInt8) : ByteArray := ⟨l.toArray⟩
theorem ba_list (l : List UInt8) : (ba l).data.toList = l := rfl
theorem ba_size (l : List UInt8) : (ba l).size = l.length := rfl
theorem ba_of (s : ByteArray) : s = ba s.data.toList := by cases s; rfl
theorem ba_take (l : List UInt8) (n : Nat) : (ba l).extract 0 n = ba (l.take n) := by
  unfold ba
  have h : ((⟨l.toArray⟩ : ByteArray).extract 0 n).data.toList = l.take n := by simp [ByteArray.data_extract, List.extract_eq_take_drop]
  rw [ba_of ((⟨l.toArray⟩ : ByteArray).extract 0 n), h]
  rfl
theorem ba_drop (l : List UInt8) (n : Nat) : (ba l).extract n (ba l).size = ba (l.drop n) := by
  unfold ba
  have h : ((⟨l.toArray⟩ : ByteArray).extract n (⟨l.toArray⟩ : ByteArray).size).data.toList = l.drop n := by
    rw [ByteArray.data_extract, Array.toList_extract, List.extract_eq_take_drop]
    show (l.drop n).take (l.length - n) = l.drop n
    rw [List.take_of_length_le (by simp)]
  rw [ba_of ((⟨l.toArray⟩ : ByteArray).extract n (⟨l.toArray⟩ : ByteArray).size), h]
  rfl

theorem takeOf_in (l : List UInt8) (n : Nat) (h : n ≤ l.length) : takeOf (some (ba l)) (n : Int) = (ba (l.take n), some (ba (l.drop n))) := by
  unfold takeOf
  simp only []
  rw [if_pos ⟨by omega, by rw [ba_size]; omega⟩, Int.toNat_natCast, ba_take, ba_drop]
theorem takeOf_out (l : List UInt8) (n : Nat) (h : l.length < n) : takeOf (some (ba l)) (n : Int) = (nobytes, none) := by
  unfold takeOf
  simp only []
  rw [if_neg (by rw [ba_size]; omega)]

theorem rbyte_cons (base r : Nat) (k : UInt8) (t : List UInt8) (w : World) (h : Rd base r (some (ba (k :: t))) w) (hs : t.length ≤ 90000) :
    Calls Tryd.prog 47 #[.pointer (some ⟨r, 0, none⟩)] w fun e w' => e = .returned (.int .i64 k.toNat) ∧ Rd base r (some (ba t)) w' ∧ w.grownBy w' (some r) := by
  have e := takeOf_in (k :: t) 1 (by simp)
  have e' : takeOf (some (ba (k :: t))) 1 = (ba [k], some (ba t)) := e
  refine (RByte_any base r _ w h (by show (k :: t).length ≤ 100000; simp; omega)).mono ?_
  rintro e w' ⟨he, hr, hg⟩
  rw [e'] at he hr
  exact ⟨by rw [he]; show Ending.returned (.int .i64 ((num [k] : Nat) : Int)) = _; simp [num], hr, hg⟩

theorem rbyte_nil (base r : Nat) (w : World) (h : Rd base r (some (ba [])) w) :
    Calls Tryd.prog 47 #[.pointer (some ⟨r, 0, none⟩)] w fun e w' => e = .returned (.int .i64 0) ∧ Rd base r none w' ∧ w.grownBy w' (some r) := by
  have e := takeOf_out [] 1 (by simp)
  have e' : takeOf (some (ba [])) 1 = (nobytes, none) := e
  refine (RByte_any base r _ w h (by show (0 : Nat) ≤ 100000; omega)).mono ?_
  rintro e w' ⟨he, hr, hg⟩
  rw [e'] at he hr
  exact ⟨he, hr, hg⟩

theorem rtake_in (base r : Nat) (l : List UInt8) (n : Nat) (w : World) (h : Rd base r (some (ba l)) w) (hs : l.length ≤ 90000) (hn : n ≤ l.length) :
    Calls Tryd.prog 73 #[.pointer (some ⟨r, 0, none⟩), .int .i64 n] w fun e w' => e = .returned (.string (ba (l.take n))) ∧ Rd base r (some (ba (l.drop n))) w' ∧ w.grownBy w' (some r) := by
  refine (take_any base r _ n w h (by show l.length ≤ 100000; omega)).mono ?_
  rintro e w' ⟨he, hr, hg⟩
  rw [takeOf_in l n hn] at he hr
  exact ⟨he, hr, hg⟩

theorem rrest (base r : Nat) (l : List UInt8) (w : World) (h : Rd base r (some (ba l)) w) (hs : l.length ≤ 90000) :
    Calls Tryd.prog 71 #[.pointer (some ⟨r, 0, none⟩)] w fun e w' => e = .returned (.string (ba l)) ∧ Rd base r (some (ba [])) w' ∧ w.grownBy w' (some r) := by
  refine (Rest_any base r _ w h (by show l.length ≤ 100000; omega)).mono ?_
  rintro e w' ⟨he, hr, hg⟩
  have e1 : takeOf (some (ba l)) ((((some (ba l)).getD nobytes).size : Nat) : Int) = (ba l, some (ba [])) := by
    show takeOf (some (ba l)) ((l.length : Nat) : Int) = _
    rw [takeOf_in l l.length (Nat.le_refl _), List.take_length, List.drop_length]
  rw [e1] at he hr
  exact ⟨he, hr, hg⟩

theorem Rd.draw {base r : Nat} {o : Option ByteArray} {w : World} (h : Rd base r o w) : Rd base r o w.drew := ⟨h.low, h.cells⟩

/-- A reader of options: what is left, and what was read. -/
structure Ps (base p r : Nat) (o : Option ByteArray) (l : List Opt) (w : World) : Prop where
  low : base ≤ p
  ne : p ≠ r
  cells : ∃ ao cap, w.heap[p]? = some (.cells #[.pointer (some ⟨r, 0, none⟩), .slice ao l.length cap] 54 (0, 0)) ∧ OptBuf base ao cap l w
  rd : Rd base r o w

theorem OptBuf.apart {base : Nat} {ao : Option Addr} {cap b : Nat} {l : List Opt} {w : World} {cs : Array Value} {t : TypeId} (h : OptBuf base ao cap l w) (hb : w.heap[b]? = some (.cells cs t (0, 0))) (ht : t ≠ 48) : Value.ownBlock (.slice ao l.length cap) ≠ some b := by
  intro e
  rcases h.2 with ⟨hv, _⟩ | ⟨g, cap', cur, hv, _, hg, _⟩
  · rw [hv] at e; cases e
  · rw [hv] at e
    cases e
    rw [hg] at hb
    simp at hb
    exact ht hb.2.symm

theorem Ps.read {base p r : Nat} {o o' : Option ByteArray} {l : List Opt} {w w' : World} (h : Ps base p r o l w) (hg : w.grownBy w' (some r)) (hr : Rd base r o' w') : Ps base p r o' l w' := by
  obtain ⟨low, ne, ⟨ao, cap, hc, hb⟩, rd⟩ := h
  refine ⟨low, ne, ⟨ao, cap, ?_, ?_⟩, hr⟩
  · rw [hg.block p (lt_of_block hc) (by intro e; cases e; exact ne rfl)]; exact hc
  · exact World.ownsRow.kept hb hg (.inr (hb.apart rd.cells (by decide)))

theorem Ps.at {base p r : Nat} {o : Option ByteArray} {l : List Opt} {w : World} (h : Ps base p r o l w) : w.cell? ⟨p, 0, none⟩ = some (.pointer (some ⟨r, 0, none⟩)) ∧ w.frozen? ⟨p, 1, none⟩ = false ∧ p < w.heap.size ∧ ∃ ao cap, w.cell? ⟨p, 1, none⟩ = some (.slice ao l.length cap) ∧ OptBuf base ao cap l w := by
  obtain ⟨low, ne, ⟨ao, cap, hc, hb⟩, rd⟩ := h
  exact ⟨by simp [World.cell?, hc], by simp [World.frozen?, hc], lt_of_block hc, ao, cap, by simp [World.cell?, hc], hb⟩

theorem Ps.below {base p r : Nat} {o : Option ByteArray} {l : List Opt} {w w' : World} (h : Ps base p r o l w) (hg : w.grownBy w' (some r)) : Below base w w' :=
  grown_below hg h.rd.low (by have := lt_of_block h.rd.cells; have := h.rd.low; omega)

theorem dropWhile_nil (p : UInt8 → Bool) (l : List UInt8) : l.dropWhile p = [] ↔ ∀ x ∈ l, p x = true := by
  induction l with
  | nil => simp
  | cons a r ih =>
    rw [List.dropWhile_cons]
    by_cases h : p a = true
    · rw [if_pos h, ih]; simp [h]
    · rw [if_neg h]; simp [h]

theorem dropWhile_all (p : UInt8 → Bool) (l : List UInt8) (h : ∀ x ∈ l.dropWhile p, p x = true) : ∀ x ∈ l, p x = true := by
  induction l with
  | nil => simp
  | cons a r ih =>
    rw [List.dropWhile_cons] at h
    by_cases ha : p a = true
    · rw [if_pos ha] at h
      intro x hx
      rcases List.mem_cons.1 hx with rfl | hx
      · exact ha
      · exact ih h x hx
    · rw [if_neg ha] at h
      exact h

theorem all_zero (l : List UInt8) : (Lib.trimB l 0).isEmpty = l.all (· == 0) := by
  rw [Bool.eq_iff_iff, List.isEmpty_iff, List.all_eq_true]
  unfold Lib.trimB Lib.trimLeftB Lib.trimRightB
  rw [dropWhile_nil]
  constructor
  · intro h x hx
    exact dropWhile_all _ l.reverse (fun y hy => h y (List.mem_reverse.2 hy)) x (List.mem_reverse.2 hx)
  · intro h x hx
    rw [(dropWhile_nil _ l.reverse).2 (fun y hy => h y (List.mem_reverse.1 hy))] at hx
    simp at hx

set_option maxHeartbeats 400000 in
theorem ending_any (base p r : Nat) (t : List UInt8) (l : List Opt) (w : World) (h : Ps base p r (some (ba t)) l w) (ht : t.length ≤ 100) :
    Calls Tryd.prog 48 #[.pointer (some ⟨p, 0, none⟩)] w fun e w' => e = .returned (.int .i64 (if t.all (· == 0) then 0 else 3)) ∧ Ps base p r (some (ba [])) l w' ∧ Below base w w' := by
  obtain ⟨c0, f1, hp, ao, cap, c1, hbuf⟩ := h.at
  have Hq := Lib.hid (all_zero t)
  have Hps := Lib.hid h
  obtain ⟨z, hz⟩ : ∃ z : Int, (if t.all (· == 0) then (0 : Int) else 3) = z := ⟨_, rfl⟩
  have Hz := Lib.hid hz
  rw [hz]
  clear hz
  clear hbuf
  go_enter Tryd.func48, Tryd.ntmps48
  clear h
  go_wp2_with fail
  refine (rrest base r t w Hps.out.rd (by omega)).mono ?_
  rintro e w1 ⟨rfl, hr1, hg1⟩
  have hps1 := Hps.out.read hg1 hr1
  have hb1 := Hps.out.below hg1
  clear hg1 hr1 c0 c1 f1
  go_wp2_with fail
  refine (Tryd.strings_Trim_one (ba t) 0 (by decide) w1 (by rw [ba_size]; omega)).mono ?_
  rintro e w2 ⟨rfl, hw2⟩
  have hps2 : Ps base p r (some (ba [])) l w2 := by
    rcases hw2 with rfl | rfl
    · exact hps1
    · exact ⟨hps1.low, hps1.ne, hps1.cells, ⟨hps1.rd.low, hps1.rd.cells⟩⟩
  have hb2 : Below base w w2 := by
    rcases hw2 with rfl | rfl
    · exact hb1
    · exact hb1.drew
  clear hw2 hps1 hb1
  have hq2 : (⟨(Lib.trimB (ba t).data.toList 0).toArray⟩ : ByteArray).toList.isEmpty = t.all (· == 0) := by
    rw [Lib.toList_data]; exact Hq.out
  generalize (⟨(Lib.trimB (ba t).data.toList 0).toArray⟩ : ByteArray) = u at *
  generalize ht : t.all (· == 0) = q at *
  clear ht
  cases q with
  | true =>
    have hq3 : u = ⟨#[]⟩ := O.empty_of_size u (by rw [isEmpty_size] at hq2; exact of_decide_eq_true hq2)
    clear hq2
    subst hq3
    go_wp2
    go_ret
    exact ⟨ret_i64 (by rw [← Hz.out]; rfl), hps2, hb2⟩
  | false =>
    have hq3 : (!u.toList.isEmpty) = true := by rw [hq2]; rfl
    have hq4 : ¬ u.toList = [] := fun e => by rw [e] at hq2; simp at hq2
    go_wp2
    go_ret
    exact ⟨ret_i64 (by rw [← Hz.out]; rfl), hps2, hb2⟩

theorem Ps.back {base p r : Nat} {o : Option ByteArray} {l m : List Opt} {w w' : World} {ao ao' : Option Addr} {cap cap' : Nat} (h : Ps base p r o l w) (hbuf : OptBuf base ao cap l w) (hg : w.grownBy w' (Value.ownBlock (.slice ao l.length cap))) (hbuf' : OptBuf base ao' cap' m w') :
    Ps base p r o m (w'.setCell ⟨p, 1, none⟩ (.slice ao' m.length cap')) ∧ Below base w (w'.setCell ⟨p, 1, none⟩ (.slice ao' m.length cap')) := by
  obtain ⟨low, ne, ⟨ao2, cap2, hc, hb⟩, rd⟩ := h
  have h1 : w'.heap[p]? = some (.cells #[.pointer (some ⟨r, 0, none⟩), .slice ao2 l.length cap2] 54 (0, 0)) :=
    (hg.block p (lt_of_block hc) (fun e => hbuf.apart hc (by decide) e.symm)).trans hc
  have h2 : w'.heap[r]? = _ := (hg.block r (lt_of_block rd.cells) (fun e => hbuf.apart rd.cells (by decide) e.symm)).trans rd.cells
  have hp := lt_of_block hc
  refine ⟨⟨low, ne, ⟨ao', cap', rd_set1 h1, ownsRow_setCell_other hbuf' (hbuf'.apart h1 (by decide)) _⟩, ⟨rd.low, ?_⟩⟩, ?_⟩
  · rw [Below.heap_setCell _ _ _ _ (fun e => ne e.symm)]; exact h2
  · exact ((Below.refl base w).grown hg (by omega) (fun k hk => (hbuf.lt k hk).1)).setCell low _

theorem Ps.old {base p r : Nat} {o : Option ByteArray} {l : List Opt} {w w' : World} {ao : Option Addr} {cap : Nat} (h : Ps base p r o l w) (hbuf : OptBuf base ao cap l w) (hg : w.grownBy w' (Value.ownBlock (.slice ao l.length cap))) :
    w'.frozen? ⟨p, 1, none⟩ = false ∧ ∃ v, w'.cell? ⟨p, 1, none⟩ = some v := by
  obtain ⟨low, ne, ⟨ao2, cap2, hc, hb⟩, rd⟩ := h
  have h1 : w'.heap[p]? = some (.cells #[.pointer (some ⟨r, 0, none⟩), .slice ao2 l.length cap2] 54 (0, 0)) :=
    (hg.block p (lt_of_block hc) (fun e => hbuf.apart hc (by decide) e.symm)).trans hc
  exact ⟨by simp [World.frozen?, h1], _, by simp [World.cell?, h1]; rfl⟩

theorem Ps.keep {base p r : Nat} {o : Option ByteArray} {l : List Opt} {w w' : World} {ao : Option Addr} {cap : Nat} (h : Ps base p r o l w) (hbuf : OptBuf base ao cap l w) (hc : w.cell? ⟨p, 1, none⟩ = some (.slice ao l.length cap)) (hg : w.grownBy w' (some r)) :
    OptBuf base ao cap l w' ∧ w'.cell? ⟨p, 1, none⟩ = some (.slice ao l.length cap) ∧ w'.cell? ⟨p, 0, none⟩ = some (.pointer (some ⟨r, 0, none⟩)) := by
  have hne : some p ≠ some r := fun e => by cases e; exact h.ne rfl
  exact ⟨World.ownsRow.kept hbuf hg (.inr (hbuf.apart h.rd.cells (by decide))), hg.cell hc hne, hg.cell h.at.1 hne⟩

theorem Ps.alloc {base p r : Nat} {o : Option ByteArray} {l : List Opt} {w : World} (h : Ps base p r o l w) (x : Obj) : Ps base p r o l (w.alloc x) := by
  obtain ⟨low, ne, ⟨ao, cap, hc, hb⟩, rd⟩ := h
  exact ⟨low, ne, ⟨ao, cap, (Below.heap_alloc w x p (lt_of_block hc)).trans hc, hb.alloc x⟩, ⟨rd.low, (Below.heap_alloc w x r (lt_of_block rd.cells)).trans rd.cells⟩⟩

theorem Ps.draw {base p r : Nat} {o : Option ByteArray} {l : List Opt} {w : World} (h : Ps base p r o l w) : Ps base p r o l w.drew :=
  ⟨h.low, h.ne, h.cells, ⟨h.rd.low, h.rd.cells⟩⟩

set_option maxHeartbeats 400000 in
theorem long_none (base p r : Nat) (k : Int) (l : List Opt) (w : World) (h : Ps base p r (some (ba [])) l w) :
    Calls Tryd.prog 49 #[.pointer (some ⟨p, 0, none⟩), .int .i64 k] w fun e w' => e = .returned (.int .i64 2) ∧ Below base w w' := by
  obtain ⟨c0, f1, hp, ao, cap, c1, hbuf⟩ := h.at
  have Hps := Lib.hid h
  clear hbuf
  go_enter Tryd.func49, Tryd.ntmps49
  clear h
  go_wp2_with fail
  refine (rbyte_nil base r w Hps.out.rd).mono ?_
  rintro e w1 ⟨rfl, hr1, hg1⟩
  have hps1 := Hps.out.read hg1 hr1
  have hb1 := Hps.out.below hg1
  obtain ⟨d0, _, _, _, _, _, _⟩ := hps1.at
  clear hg1 c0 c1 f1
  go_wp2_with fail
  refine (Ok_any base r none w1 hr1).mono ?_
  rintro e w2 ⟨rfl, rfl⟩
  go_wp2
  go_ret
  exact ⟨rfl, hb1⟩

set_option maxHeartbeats 400000 in
theorem long_short (base p r : Nat) (k : Int) (n : UInt8) (t : List UInt8) (l : List Opt) (w : World) (h : Ps base p r (some (ba (n :: t))) l w) (ht : t.length ≤ 100) (hn : 2 + t.length < n.toNat) :
    Calls Tryd.prog 49 #[.pointer (some ⟨p, 0, none⟩), .int .i64 k] w fun e w' => e = .returned (.int .i64 2) ∧ Below base w w' := by
  obtain ⟨c0, f1, hp, ao, cap, c1, hbuf⟩ := h.at
  have Hps := Lib.hid h
  clear hbuf
  have hn255 := n.toNat_lt
  go_enter Tryd.func49, Tryd.ntmps49
  clear h
  go_wp2_with fail
  refine (rbyte_cons base r n t w Hps.out.rd (by omega)).mono ?_
  rintro e w1 ⟨rfl, hr1, hg1⟩
  have hps1 := Hps.out.read hg1 hr1
  have hb1 := Hps.out.below hg1
  obtain ⟨d0, _, _, _, _, _, _⟩ := hps1.at
  clear hg1 c0 c1 f1
  generalize n.toNat = nn at *
  go_wp2_with fail
  refine (Ok_any base r _ w1 hr1).mono ?_
  rintro e w2 ⟨rfl, rfl⟩
  simp only [Option.isSome_some]
  go_wp2_with fail
  refine (Left_any base r _ w1 hr1).mono ?_
  rintro e w2 ⟨rfl, rfl⟩
  simp only [Option.getD_some, ba_size]
  go_wp2
  go_ret
  exact ⟨rfl, hb1⟩

set_option maxHeartbeats 400000 in
theorem long_form (base p r : Nat) (k : Int) (n : UInt8) (t : List UInt8) (l : List Opt) (w : World) (h : Ps base p r (some (ba (n :: t))) l w) (ht : t.length ≤ 100) (hn : n.toNat ≤ 2 + t.length) (hn2 : n.toNat < 2) :
    Calls Tryd.prog 49 #[.pointer (some ⟨p, 0, none⟩), .int .i64 k] w fun e w' => e = .returned (.int .i64 3) ∧ Below base w w' := by
  obtain ⟨c0, f1, hp, ao, cap, c1, hbuf⟩ := h.at
  have Hps := Lib.hid h
  clear hbuf
  have hn255 := n.toNat_lt
  go_enter Tryd.func49, Tryd.ntmps49
  clear h
  go_wp2_with fail
  refine (rbyte_cons base r n t w Hps.out.rd (by omega)).mono ?_
  rintro e w1 ⟨rfl, hr1, hg1⟩
  have hps1 := Hps.out.read hg1 hr1
  have hb1 := Hps.out.below hg1
  obtain ⟨d0, _, _, _, _, _, _⟩ := hps1.at
  clear hg1 c0 c1 f1
  generalize n.toNat = nn at *
  go_wp2_with fail
  refine (Ok_any base r _ w1 hr1).mono ?_
  rintro e w2 ⟨rfl, rfl⟩
  simp only [Option.isSome_some]
  go_wp2_with fail
  refine (Left_any base r _ w1 hr1).mono ?_
  rintro e w2 ⟨rfl, rfl⟩
  simp only [Option.getD_some, ba_size]
  go_wp2
  go_ret
  exact ⟨rfl, hb1⟩

set_option maxHeartbeats 2000000 in
theorem long_ok (base p r : Nat) (k : Int) (n : UInt8) (t : List UInt8) (l : List Opt) (w : World) (h : Ps base p r (some (ba (n :: t))) l w) (ht : t.length ≤ 100) (hl : l.length ≤ 1000) (hn : n.toNat ≤ 2 + t.length) (hn2 : 2 ≤ n.toNat) :
    Calls Tryd.prog 49 #[.pointer (some ⟨p, 0, none⟩), .int .i64 k] w fun e w' => e = .returned (.int .i64 0) ∧ Ps base p r (some (ba (t.drop (n.toNat - 2)))) (l ++ [⟨k, ba (t.take (n.toNat - 2))⟩]) w' ∧ Below base w w' := by
  obtain ⟨c0, f1, hp, ao, cap, c1, hbuf⟩ := h.at
  have Hps := Lib.hid h
  have hn255 := n.toNat_lt
  go_enter Tryd.func49, Tryd.ntmps49
  clear h
  go_wp2_with fail
  refine (rbyte_cons base r n t w Hps.out.rd (by omega)).mono ?_
  rintro e w1 ⟨rfl, hr1, hg1⟩
  have hps1 := Hps.out.read hg1 hr1
  have hb1 := Hps.out.below hg1
  clear hg1 c0 c1 f1 hbuf
  obtain ⟨d0, df, dp, ao, cap, d1, hbuf⟩ := hps1.at
  generalize hnn : n.toNat = nn at *
  have Hnn := Lib.hid hnn
  clear hnn
  go_wp2_with fail
  refine (Ok_any base r _ w1 hr1).mono ?_
  rintro e w2 ⟨rfl, rfl⟩
  simp only [Option.isSome_some]
  go_wp2_with fail
  refine (Left_any base r _ w1 hr1).mono ?_
  rintro e w2 ⟨rfl, rfl⟩
  simp only [Option.getD_some, ba_size]
  obtain ⟨m, hm⟩ : ∃ m : Nat, (nn : Int) - 2 = (m : Int) := ⟨nn - 2, by omega⟩
  have hmn : m = nn - 2 := by omega
  have Hm := Lib.hid hmn
  have hmt : m ≤ t.length := by omega
  have j1 : IntKind.i64.wrap (m : Int) = (m : Int) := IntWalk.i64_in _ (by omega)
  clear hmn
  have Hps1 := Lib.hid hps1
  have Hbuf := Lib.hid hbuf
  have Hr1 := Lib.hid hr1
  have hbase : base ≤ w1.heap.size := by have := hps1.low; omega
  clear hps1 hbuf hr1
  go_wp2
  go_region_law (first
    | (refine stepAppend rfl _ _ _ _ rfl _ _ rfl rfl _ _ Hrun.out ?_)
    | (go_simp; go_at_call 73;
       refine (rtake_in base r t m _ (by exact Hr1.out.draw) (by omega) hmt).mono ?_;
       rintro e w2 ⟨rfl, hr2, hg2⟩;
       obtain ⟨hbuf2, e1, e0⟩ := Ps.keep Hps1.out.draw (show OptBuf base ao cap l w1.drew from Hbuf.out) d1 hg2;
       have hps2 := Hps1.out.draw.read hg2 hr2;
       have hsz := hg2.size;
       have hp2 := hps2.at.2.2.1;
       obtain ⟨ao', cp', w3, hrun, hbuf3, hg3⟩ := append_opt base ao cap l (w2.alloc (.cells #[.int .i64 k, .string (ba (t.take m))] 48)) (hbuf2.alloc _) k (ba (t.take m)) w2.heap.size (by simp) (by simp) 23 (by omega) (by simp; simp at hsz; omega);
       obtain ⟨g1, v3, g0⟩ := Ps.old (hps2.alloc _) (hbuf2.alloc _) hg3;
       have hend := Ps.back (hps2.alloc _) (hbuf2.alloc _) hg3 hbuf3;
       have hb3 : Below base w (w2.alloc (.cells #[.int .i64 k, .string (ba (t.take m))] 48)) := (hb1.drew.trans (Hps1.out.draw.below hg2)).alloc (by simp at hsz; omega) _;
       have Hend := Lib.hid hend;
       have Hrun := Lib.hid hrun;
       clear hrun hend hbuf3 hg3 hbuf2 hps2 hg2 hr2))
  all_goals
    go_wp2
    go_ret
    rw [Hnn.out, ← Hm.out]
    have hlen : (l ++ [(⟨k, ba (t.take m)⟩ : Opt)]).length = l.length + 1 := by simp
    have h1 := Hend.out.1
    have h2 := hb3.trans Hend.out.2
    rw [hlen] at h1 h2
    exact ⟨rfl, h1, h2⟩

set_option maxHeartbeats 400000 in
theorem next_zero (base p r : Nat) (t : List UInt8) (l : List Opt) (w : World) (h : Ps base p r (some (ba (0 :: t))) l w) (ht : t.length ≤ 100) :
    Calls Tryd.prog 27 #[.pointer (some ⟨p, 0, none⟩)] w fun e w' => e = .returned (.int .i64 (if t.all (· == 0) then 0 else 3)) ∧ Ps base p r (some (ba [])) l w' ∧ Below base w w' := by
  obtain ⟨c0, f1, hp, ao, cap, c1, hbuf⟩ := h.at
  have Hps := Lib.hid h
  have He := Lib.hid (fun w h => ending_any base p r t l w h ht)
  generalize (if t.all (· == 0) then (0 : Int) else 3) = z at *
  clear hbuf
  go_enter Tryd.func27, Tryd.ntmps27
  clear h
  go_wp2_with fail
  refine (rbyte_cons base r 0 t w Hps.out.rd (by omega)).mono ?_
  rintro e w1 ⟨rfl, hr1, hg1⟩
  have hps1 := Hps.out.read hg1 hr1
  have hb1 := Hps.out.below hg1
  clear hg1 hr1 c0 c1 f1
  have hz : ((UInt8.toNat 0 : Nat) : Int) = 0 := rfl
  rw [hz]
  clear hz
  go_wp2_with fail
  refine (He.out w1 hps1).mono ?_
  rintro e w2 ⟨rfl, hps2, hb2⟩
  go_wp2
  go_ret
  exact ⟨rfl, hps2, hb1.trans hb2⟩

set_option maxHeartbeats 1000000 in
theorem next_one (base p r : Nat) (t : List UInt8) (l : List Opt) (w : World) (h : Ps base p r (some (ba (1 :: t))) l w) (ht : t.length ≤ 100) (hl : l.length ≤ 1000) :
    Calls Tryd.prog 27 #[.pointer (some ⟨p, 0, none⟩)] w fun e w' => e = .returned (.int .i64 0) ∧ Ps base p r (some (ba t)) (l ++ [⟨1, ⟨#[]⟩⟩]) w' ∧ Below base w w' := by
  obtain ⟨c0, f1, hp, ao, cap, c1, hbuf⟩ := h.at
  have Hps := Lib.hid h
  clear hbuf
  go_enter Tryd.func27, Tryd.ntmps27
  clear h
  go_wp2_with fail
  refine (rbyte_cons base r 1 t w Hps.out.rd (by omega)).mono ?_
  rintro e w1 ⟨rfl, hr1, hg1⟩
  have hps1 := Hps.out.read hg1 hr1
  have hb1 := Hps.out.below hg1
  clear hg1 hr1 c0 c1 f1
  have hz : ((UInt8.toNat 1 : Nat) : Int) = 1 := rfl
  rw [hz]
  clear hz
  obtain ⟨d0, df, dp, ao, cap, d1, hbuf⟩ := hps1.at
  have hlow := hps1.low
  obtain ⟨ao', cp', w3, hrun, hbuf3, hg3⟩ := append_opt base ao cap l (w1.alloc (.cells #[.int .i64 1, .string ⟨#[]⟩] 48)) (hbuf.alloc _) 1 ⟨#[]⟩ w1.heap.size (by simp) (by simp) 23 (by omega) (by simp; omega)
  obtain ⟨g1, v3, g0⟩ := Ps.old (hps1.alloc _) (hbuf.alloc _) hg3
  have hend := Ps.back (hps1.alloc _) (hbuf.alloc _) hg3 hbuf3
  have hb3 : Below base w (w1.alloc (.cells #[.int .i64 1, .string ⟨#[]⟩] 48)) := hb1.alloc (by omega) _
  have Hend := Lib.hid hend
  have Hrun := Lib.hid hrun
  clear hrun hend hbuf3 hg3 hbuf hps1 hb1
  go_wp2_with (at_builtin; refine listAppend rfl _ _ _ _ rfl _ _ rfl rfl _ _ Hrun.out ?_)
  go_ret
  have hlen : (l ++ [(⟨1, ⟨#[]⟩⟩ : Opt)]).length = l.length + 1 := by simp
  have h1 := Hend.out.1
  have h2 := hb3.trans Hend.out.2
  rw [hlen] at h1 h2
  exact ⟨rfl, by simpa using h1, by simpa using h2⟩

set_option maxHeartbeats 400000 in
theorem next_long (base p r : Nat) (k : UInt8) (t : List UInt8) (l : List Opt) (w : World) (h : Ps base p r (some (ba (k :: t))) l w) (ht : t.length ≤ 100) (hk0 : k ≠ 0) (hk1 : k ≠ 1) (z : Int) (Q : World → Prop)
    (H : ∀ w1, Ps base p r (some (ba t)) l w1 → Below base w w1 → Calls Tryd.prog 49 #[.pointer (some ⟨p, 0, none⟩), .int .i64 k.toNat] w1 fun e w' => e = .returned (.int .i64 z) ∧ Q w') :
    Calls Tryd.prog 27 #[.pointer (some ⟨p, 0, none⟩)] w fun e w' => e = .returned (.int .i64 z) ∧ Q w' := by
  obtain ⟨c0, f1, hp, ao, cap, c1, hbuf⟩ := h.at
  have Hps := Lib.hid h
  have HH := Lib.hid H
  have h2 : 2 ≤ k.toNat := by
    rcases Nat.lt_or_ge k.toNat 2 with h | h
    · exfalso
      rcases (show k.toNat = 0 ∨ k.toNat = 1 by omega) with h | h
      · exact hk0 (UInt8.toNat_inj.1 h)
      · exact hk1 (UInt8.toNat_inj.1 h)
    · exact h
  clear hbuf H hk0 hk1
  go_enter Tryd.func27, Tryd.ntmps27
  clear h
  go_wp2_with fail
  refine (rbyte_cons base r k t w Hps.out.rd (by omega)).mono ?_
  rintro e w1 ⟨rfl, hr1, hg1⟩
  have hps1 := Hps.out.read hg1 hr1
  have hb1 := Hps.out.below hg1
  clear hg1 hr1 c0 c1 f1
  generalize k.toNat = n at *
  go_wp2_with fail
  refine (HH.out w1 hps1 hb1).mono ?_
  rintro e w2 ⟨rfl, hq⟩
  go_wp2
  go_ret
  exact ⟨rfl, hq⟩

namespace O
def app (l : List Opt) (x : Except Nat (List Opt)) : Except Nat (List Opt) := match x with | .ok m => .ok (l ++ m) | .error e => .error e
theorem app_nil (x : Except Nat (List Opt)) : app [] x = x := by cases x <;> rfl
theorem app_snoc (l : List Opt) (o : Opt) (x : Except Nat (List Opt)) : app (l ++ [o]) x = app l (match x with | .ok m => .ok (o :: m) | .error e => .error e) := by cases x <;> simp [app]

/-- What a Parse ends in. -/
def Parsed (x : Except Nat (List Opt)) (w : World) (e : Ending) (w' : World) : Prop :=
  match x with
  | .ok l => ∃ ao cp, e = .returned (.tuple #[.slice ao l.length cp, .int .i64 0]) ∧ OptRow w' ao l ∧ Below w.heap.size w w'
  | .error n => e = .returned (.tuple #[.slice none 0 0, .int .i64 n]) ∧ Below w.heap.size w w'
end O

set_option maxHeartbeats 400000 in
theorem parse_long (s : List UInt8) (w : World) (hs : s.length ≤ 100000) (h : 40 < s.length) :
    Calls Tryd.prog 10 #[.string (ba s)] w (O.Parsed (.error 5) w) := by
  have hz := ba_size s
  go_enter Tryd.func10, Tryd.ntmps10
  go_wp2
  go_ret2
  exact ⟨rfl, Below.refl _ _⟩

set_option maxHeartbeats 400000 in
theorem parse_form (s : List UInt8) (w : World) (h : s.length ≤ 40) (h4 : s.length % 4 ≠ 0) :
    Calls Tryd.prog 10 #[.string (ba s)] w (O.Parsed (.error 3) w) := by
  have hz := ba_size s
  have hp : 0 < O.pad s.length := by unfold O.pad; omega
  go_enter Tryd.func10, Tryd.ntmps10
  go_wp2_with fail
  refine (padding_any s.length w (by omega)).mono ?_
  rintro e w1 ⟨rfl, rfl⟩
  generalize O.pad s.length = q at *
  go_wp2
  go_ret2
  exact ⟨rfl, Below.refl _ _⟩
#print axioms next_long
#print axioms ending_any
end Go.Proofs.YtncnildpbccpaaaDoor
