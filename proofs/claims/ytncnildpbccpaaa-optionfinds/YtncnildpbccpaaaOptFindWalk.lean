/- The law of what is found among options: its walk. -/
import Derived.Test.YtncnildpbccpaaaOptFind
import Derived.Test.YtncnildpbccpaaaOptAwake
namespace Go.Proofs.Ytncnildpbccpaaa
open Go.RowKit

set_option maxHeartbeats 1000000 in
theorem findl_great (a : Option Addr) (cap : Nat) (l : List Opt) (x y : Int) (w : World) (h : OptRow w a l) (hl : l.length ≤ maxLen) (hd : ∀ o ∈ l, o.data.size ≤ maxLen) (hg : O.great l = true) :
    Calls Try.prog 4 #[.slice a l.length cap, .int .i64 x, .int .i64 y] w fun e w' => e = .returned (.bool true) ∧ Below w.heap.size w w' := by
  have H1 := Lib.hid (great_any a cap l w h hl hd)
  have Hg := Lib.hid hg
  clear h hl hd hg
  go_enter Try.func4, Try.ntmps4
  go_wp2_with fail
  refine H1.out.mono ?_
  rintro e w1 ⟨rfl, rfl⟩
  rw [Hg.out]
  go_wp2_with fail
  refine (awake4_any _).mono ?_
  rintro e w2 ⟨rfl, hb⟩
  go_wp2
  go_ret
  exact ⟨rfl, hb⟩

theorem bool_same (q : Bool) : (q == q) = true := by simp

set_option maxHeartbeats 4000000 in
theorem findl_small (a : Option Addr) (cap : Nat) (l : List Opt) (x y : Int) (w : World) (h : OptRow w a l) (hl : l.length ≤ maxLen) (hd : ∀ o ∈ l, o.data.size ≤ maxLen) (hg : O.great l = false) :
    Calls Try.prog 4 #[.slice a l.length cap, .int .i64 x, .int .i64 y] w fun e w' => e = .returned (.bool true) ∧ Below w.heap.size w w' := by
  have H1 := Lib.hid (great_any a cap l w h hl hd)
  have Hg := Lib.hid hg
  obtain ⟨hl6, _⟩ := great_not l hg
  have Hrow := Lib.hid h
  have Hlm := Lib.hid hl
  clear h hl hd hg
  go_enter Try.func4, Try.ntmps4
  go_wp2_with fail
  refine H1.out.mono ?_
  rintro e w1 ⟨rfl, rfl⟩
  rw [Hg.out]
  clear H1
  go_wp2
  go_loopw [7, 8, 9, 10] (fun f n s i wr => ∃ (k : Nat) (ao : Option Addr) (cp : Nat), k ≤ l.length ∧ i = .int .i64 k ∧ f = .int .i64 (O.fnd x l k).1 ∧ n = .int .i64 (O.fnd x l k).2 ∧ s = .slice ao (O.others x y (l.take k)).length cp ∧ OptBuf w.heap.size ao cp (O.others x y (l.take k)) wr ∧ Below w.heap.size w wr) (fun _ _ _ i _ => l.length - (intOf i).toNat)
  case atStart => exact ⟨0, none, 0, Nat.zero_le _, rfl, rfl, rfl, rfl, OptBuf.nil _ _, Below.refl _ _⟩
  case round =>
    obtain ⟨k, ao, cp, hk, rfl, rfl, rfl, rfl, hbuf, hb⟩ := hrel
    have hbs := hb.size
    obtain ⟨i1, i2, i3⟩ := O.fnd_inv x l k
    by_cases hlt : k < l.length
    · obtain ⟨b, off, rfl, hbl, c0, c1⟩ := Hrow.out.then hb k hlt
      have Ho := Lib.hid (O.others_take x y l k hlt)
      have Hy := Lib.hid (O.fnd_yes x l k)
      have Hn := Lib.hid (O.fnd_no1 x l k)
      have hol := O.others_len x y (l.take k)
      have htl : (l.take k).length ≤ k := List.length_take_le _ _
      generalize l.getD k noOpt = o at *
      generalize O.others x y (l.take k) = m at *
      generalize (O.fnd x l k).1 = f at *
      generalize (O.fnd x l k).2 = n at *
      obtain ⟨kd, d⟩ := o
      simp only at c0 c1
      by_cases he : kd = x
      · have Hy' := Lib.hid (Hy.out he)
        subst he
        have Hoq : Hid (O.others kd y (l.take (k + 1)) = m) := Lib.hid (by rw [Ho.out]; simp)
        by_cases hn : n = 0
        · subst hn
          have Hz := Lib.hid (i2 rfl)
          have hf : f < 0 := by have := i2 rfl; omega
          clear i1 i2 i3
          go_wp2
          go_roundw
          case rel => exact ⟨k + 1, ao, cp, by omega, by go_num, by rw [Hy'.out]; rfl, by rw [Hy'.out]; rfl, by rw [Hoq.out], by rw [Hoq.out]; exact hbuf, hb⟩
          case measure => simp [intOf]; omega
        · have i3' := i3 (by omega)
          clear i2 i3
          go_wp2
          go_roundw
          case rel => exact ⟨k + 1, ao, cp, by omega, by go_num, by rw [Hy'.out, if_neg hn], by rw [Hy'.out]; go_num, by rw [Hoq.out], by rw [Hoq.out]; exact hbuf, hb⟩
          case measure => simp [intOf]; omega
      · have Hn' := Lib.hid (Hn.out he)
        clear i1 i2 i3
        by_cases he2 : kd = y
        · subst he2
          have Hoq : Hid (O.others x kd (l.take (k + 1)) = m) := Lib.hid (by rw [Ho.out]; simp)
          go_wp2
          go_roundw
          case rel => exact ⟨k + 1, ao, cp, by omega, by go_num, by rw [Hn'.out.1], by rw [Hn'.out.2], by rw [Hoq.out], by rw [Hoq.out]; exact hbuf, hb⟩
          case measure => simp [intOf]; omega
        · have Hoq : Hid (O.others x y (l.take (k + 1)) = m ++ [⟨kd, d⟩]) := Lib.hid (by rw [Ho.out]; simp [he, he2])
          have hbw : b < wr.heap.size := by omega
          obtain ⟨ao', cp', w3, hrun, hbuf3, hg⟩ := append_opt w.heap.size ao cp m (wr.alloc (.cells #[.int .i64 kd, .string d] 33)) (hbuf.alloc _) kd d wr.heap.size (by simp) (by simp) 22 (by omega) (by simp; omega)
          have hb3 : Below w.heap.size w w3 := (hb.alloc (by omega) _).grown hg (by simp; omega) (fun j hj => (hbuf.lt j hj).1)
          have Hrun := Lib.hid hrun
          have n1 : (kd == x) = false := by simp [he]
          have n2 : (kd != x) = true := by simp [he]
          have n3 : (kd != y) = true := by simp [he2]
          clear hg hrun
          go_wp2_with (at_builtin; refine wpList_append_run rfl _ _ _ _ rfl _ _ rfl rfl _ _ Hrun.out ?_)
          go_roundw
          case rel => exact ⟨k + 1, ao', cp', by omega, by go_num, by rw [Hn'.out.1], by rw [Hn'.out.2], by rw [Hoq.out]; simp, by rw [Hoq.out]; exact hbuf3, hb3⟩
          case measure => simp [intOf]; omega
    · obtain rfl : k = l.length := by omega
      have e : l.take l.length = l := List.take_of_length_le (by omega)
      rw [e] at hbuf ⊢
      clear e i1 i2 i3
      have hrow := hbuf.row
      have hol := O.others_len x y l
      clear hbuf
      have Hrow2 := Lib.hid hrow
      clear hrow
      go_wp2_with fail
      refine (find_any a cap l x wr (Hrow.out.carry hb) hl6).mono ?_
      rintro e w2 ⟨rfl, hbn⟩
      have hb2 := hb.trans (hbn.mono hbs)
      have Hrow3 := Lib.hid (Hrow2.out.carry hbn)
      clear hbn hb Hrow2
      generalize O.fnd x l l.length = fn at *
      obtain ⟨f, n⟩ := fn
      simp only
      go_wp2_with fail
      refine (without_any a cap l _ x y _ (Hrow.out.carry (hb2.alloc hb2.size _)) hl6 (by simp) (by simp) (by simp)).mono ?_
      rintro e w3 ⟨ao2, cp2, rfl, hrow2, hbn⟩
      have hbz := hb2.alloc hb2.size (.cells #[.int .i64 x, .int .i64 y] 3)
      have hb3 := hbz.trans (hbn.mono hbz.size)
      have Hrow4 := Lib.hid ((Hrow3.out.carry ((Below.refl w2.heap.size w2).alloc (Nat.le_refl _) _)).carry hbn)
      clear hbz hbn hb2 Hrow3
      have Hroww := Lib.hid hrow2
      clear hrow2
      have Hol2 : Hid ((O.others x y l).length ≤ maxLen) := Lib.hid (by have := Hlm.out; omega)
      have Hs1 := Lib.hid (sameB_refl (O.others x y l))
      generalize O.others x y l = m at *
      go_wp2_with fail
      refine (same_any ao2 ao cp2 cp m m w3 Hroww.out Hrow4.out Hol2.out Hol2.out).mono ?_
      rintro e w4 ⟨rfl, hbn⟩
      rw [Hs1.out]
      have hb4 := hb3.trans (hbn.mono hb3.size)
      have Hrow5 := Lib.hid (Hrow4.out.carry hbn)
      clear hbn hb3 Hrow4 Hroww
      go_wp2_with fail
      refine (optSame_any a ao cap cp l m w4 (Hrow.out.carry hb4) Hrow5.out Hlm.out Hol2.out).mono ?_
      rintro e w5 ⟨rfl, hbn⟩
      have hb5 := hb4.trans (hbn.mono hb4.size)
      have Hrow6 := Lib.hid (Hrow5.out.carry hbn)
      clear hbn hb4 Hrow5
      go_wp2_with fail
      refine (same_any a ao cap cp l m w5 (Hrow.out.carry hb5) Hrow6.out Hlm.out Hol2.out).mono ?_
      rintro e w6 ⟨rfl, hbn⟩
      have hb6 := hb5.trans (hbn.mono hb5.size)
      clear hbn hb5 Hrow6
      generalize sameB l m = q at *
      have hqq := bool_same q
      go_wp2_with fail
      refine (awake4_any _).mono ?_
      rintro e w7 ⟨rfl, hbn⟩
      have hb7 := hb6.trans (hbn.mono hb6.size)
      clear hbn hb6
      go_wp2
      go_ret
      exact ⟨rfl, hb7⟩

theorem findl_all (a : Option Addr) (cap : Nat) (l : List Opt) (x y : Int) (w : World) (h : OptRow w a l) (hl : l.length ≤ maxLen) (hd : ∀ o ∈ l, o.data.size ≤ maxLen) :
    Calls Try.prog 4 #[.slice a l.length cap, .int .i64 x, .int .i64 y] w fun e w' => e = .returned (.bool true) ∧ Below w.heap.size w w' := by
  cases hg : O.great l with
  | true => exact findl_great a cap l x y w h hl hd hg
  | false => exact findl_small a cap l x y w h hl hd hg
#print axioms findl_all
end Go.Proofs.Ytncnildpbccpaaa
