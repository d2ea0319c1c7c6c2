/- The walk of the document's own options of bytes. -/
import Derived.Test.YtncnildpbccpaaaDoorOptParse2
namespace Go.Proofs.YtncnildpbccpaaaDoor
set_option maxRecDepth 100000
open Go.RowKit

theorem drop_at (S : ByteArray) (a : Nat) (h : a < S.size) : S.data.toList.drop a = S[a] :: S.data.toList.drop (a + 1) :=
  List.drop_eq_getElem_cons (by simpa using h)

theorem all_at (S : ByteArray) (a : Nat) (h : a < S.size) : (S.data.toList.drop a).all (· == 0) = (S[a] == 0 && (S.data.toList.drop (a + 1)).all (· == 0)) := by rw [drop_at S a h]; rfl

theorem byte_ne {c : UInt8} {n : Nat} (hn : n < 256) (h : ¬ c.toNat = n) : c ≠ UInt8.ofNat n := fun e => h (by rw [e]; exact O.byte_eq n hn)

theorem byte_is {c : UInt8} {n : Nat} (hn : n < 256) (h : c.toNat = n) : c = UInt8.ofNat n := UInt8.toNat_inj.1 (by rw [h, O.byte_eq n hn])

theorem extract_ba (S : ByteArray) (a b : Nat) : S.extract a b = ba ((S.data.toList.drop a).take (b - a)) := by
  rw [ba_of (S.extract a b), ByteArray.data_extract, Array.toList_extract, List.extract_eq_take_drop]

set_option maxHeartbeats 4000000 in
theorem refparse_go (S : ByteArray) (w : World) (h : S.size ≤ 40) (h4 : S.size % 4 = 0) :
    Calls Tryd.prog 11 #[.string S] w (O.Parsed (O.par S.data.toList) w) := by
  obtain ⟨R, hR⟩ : ∃ R, O.par S.data.toList = R := ⟨_, rfl⟩
  have HR := Lib.hid hR
  rw [hR]
  clear hR
  have HP : Hid (∀ n w', R = .error n → Below w.heap.size w w' → O.Parsed R w (.returned (.tuple #[.slice none 0 0, .int .i64 n])) w') := Lib.hid (by rintro n w' rfl hb; exact ⟨rfl, hb⟩)
  have HO : Hid (∀ l ao cp w', R = .ok l → OptRow w' ao l → Below w.heap.size w w' → O.Parsed R w (.returned (.tuple #[.slice ao l.length cp, .int .i64 0])) w') := Lib.hid (by rintro l ao cp w' rfl h1 h2; exact ⟨ao, cp, rfl, h1, h2⟩)
  generalize hG : O.Parsed R w = G at *
  clear hG
  have h4' : ((S.size : Int) % 4 != 0) = false := by simp; omega
  go_enter Tryd.func11, Tryd.ntmps11
  go_wp2
  clear h4' h4
  go_loopw [4, 5] (fun v x wr => ∃ (a : Nat) (ao : Option Addr) (cp : Nat) (l : List Opt), a ≤ S.size ∧ x = .int .i64 a ∧ v = .slice ao l.length cp ∧ OptBuf w.heap.size ao cp l wr ∧ Below w.heap.size w wr ∧ Hid (R = O.app l (O.par (S.data.toList.drop a))) ∧ l.length ≤ a) (fun _ x _ => S.size - (intOf x).toNat)
  case atStart => exact ⟨0, none, 0, [], Nat.zero_le _, rfl, rfl, OptBuf.nil _ _, Below.refl _ _, Lib.hid (by rw [O.app_nil, List.drop_zero]; exact HR.out.symm), Nat.le_refl _⟩
  case round =>
    obtain ⟨a, ao, cp, l, ha, rfl, rfl, hbuf, hb, Hq, hla⟩ := hrel
    have hbs := hb.size
    by_cases hlt : a < S.size
    · have hd := drop_at S a hlt
      have hc := S[a].toNat_lt
      by_cases hc0 : S[a].toNat = 0
      · have hc0' : S[a] = 0 := byte_is (n := 0) (by omega) hc0
        have Hpz : Hid (O.par (S.data.toList.drop a) = if (S.data.toList.drop a).all (· == 0) then .ok [] else .error 3) := Lib.hid (by rw [hd, hc0', O.par_zero]; simp)
        clear hd
        have hz : ((S[a].toNat : Nat) : Int) = 0 := by omega
        have Hb := Lib.hid hbuf
        clear hbuf hc0'
        go_wp2
        go_loop [7] (fun y => ∃ i : Nat, a ≤ i ∧ i ≤ S.size ∧ y = .int .i64 i ∧ Hid ((S.data.toList.drop a).all (· == 0) = (S.data.toList.drop i).all (· == 0))) (fun y => S.size - (intOf y).toNat)
        case atStart => exact ⟨a, Nat.le_refl _, ha, rfl, Lib.hid rfl⟩
        case round =>
          obtain ⟨i, hai, his, rfl, Ha⟩ := hrel
          clear hz hc0
          by_cases hi : i < S.size
          · have hall := all_at S i hi
            have hci := S[i].toNat_lt
            by_cases hz0 : S[i].toNat = 0
            · have e : S[i] = 0 := byte_is (n := 0) (by omega) hz0
              have Hn : Hid ((S.data.toList.drop a).all (· == 0) = (S.data.toList.drop (i + 1)).all (· == 0)) := Lib.hid (by rw [Ha.out, hall, e]; simp)
              have hz : ((S[i].toNat : Nat) : Int) = 0 := by omega
              clear hall e hz0
              go_wp2
              go_round
              case rel => exact ⟨i + 1, by omega, by omega, by go_num, Hn⟩
              case measure => simp [intOf]; omega
            · have e : (S[i] == 0) = false := by simp; exact byte_ne (n := 0) (by omega) hz0
              have Hn : Hid (O.par (S.data.toList.drop a) = .error 3) := Lib.hid (by rw [Hpz.out, Ha.out, hall, e]; rfl)
              have hz : ¬ ((S[i].toNat : Nat) : Int) = 0 := by omega
              clear hall e
              go_wp2
              exact HP.out 3 wr (error_of Hq.out Hn.out) hb
          · obtain rfl : i = S.size := by omega
            have Hn : Hid (O.par (S.data.toList.drop a) = .ok []) := Lib.hid (by rw [Hpz.out, Ha.out, List.drop_eq_nil_of_le (by rw [Array.length_toList]; exact Nat.le_refl _)]; rfl)
            go_wp2
            exact HO.out l ao cp wr (by rw [Hq.out, Hn.out]; simp [O.app]) Hb.out.row hb
      · by_cases hc1 : S[a].toNat = 1
        · have hc1' : S[a] = 1 := byte_is (n := 1) (by omega) hc1
          have Hst : Hid (O.app l (O.par (S.data.toList.drop a)) = O.app (l ++ [⟨1, ⟨#[]⟩⟩]) (O.par (S.data.toList.drop (a + 1)))) := Lib.hid (by rw [hd, hc1', par_step_one])
          have hz : ((S[a].toNat : Nat) : Int) = 1 := by omega
          obtain ⟨ao', cp', w3, hrun, hbuf3, hg3⟩ := append_opt w.heap.size ao cp l (wr.alloc (.cells #[.int .i64 1, .string ⟨#[]⟩] 48)) (hbuf.alloc _) 1 ⟨#[]⟩ wr.heap.size (by simp) (by simp) 23 (by omega) (by simp; omega)
          have hb3 : Below w.heap.size w w3 := (hb.alloc (by omega) _).grown hg3 (by simp; omega) (fun j hj => (hbuf.lt j hj).1)
          have Hrun := Lib.hid hrun
          clear hd hc1' hc0 hc1 hrun hg3 hbuf
          go_wp2_with (at_builtin; refine listAppend rfl _ _ _ _ rfl _ _ rfl rfl _ _ Hrun.out ?_)
          go_roundw
          case rel => exact ⟨a + 1, ao', cp', l ++ [⟨1, ⟨#[]⟩⟩], by omega, by go_num, by simp, hbuf3, hb3, Lib.hid (by rw [Hq.out, Hst.out]), by simp; omega⟩
          case measure => simp [intOf]; omega
        · have n0 : S[a] ≠ 0 := byte_ne (n := 0) (by omega) hc0
          have n1 : S[a] ≠ 1 := byte_ne (n := 1) (by omega) hc1
          have y0 : ¬ ((S[a].toNat : Nat) : Int) = 0 := by omega
          have y1 : ¬ ((S[a].toNat : Nat) : Int) = 1 := by omega
          by_cases hlast : a + 1 < S.size
          · have hd2 := drop_at S (a + 1) hlast
            have hcn := S[a + 1].toNat_lt
            have ht : (S.data.toList.drop (a + 1 + 1)).length = S.size - a - 2 := by rw [List.length_drop, Array.length_toList]; show S.size - (a + 1 + 1) = _; omega
            have hpl := O.par_long S[a] S[a + 1] (S.data.toList.drop (a + 1 + 1)) n0 n1
            have hst := par_step_long l S[a] S[a + 1] (S.data.toList.drop (a + 1 + 1)) n0 n1
            rw [← hd2, ← hd, ht] at hpl hst
            by_cases hn : S.size - a < S[a + 1].toNat
            · have Hpz : Hid (O.par (S.data.toList.drop a) = .error 2) := Lib.hid (by rw [hpl, if_pos (by omega)])
              have y2 : decide ((S.size : Int) - (a : Int) < ((S[a + 1].toNat : Nat) : Int)) = true := by rw [decide_eq_true_iff]; omega
              have y3 : decide ((S.size : Int) ≤ (a : Int) + 1) = false := by rw [decide_eq_false_iff_not]; omega
              clear hpl hst hd hd2 ht hc0 hc1 n0 n1
              go_wp2
              exact HP.out 2 wr (error_of Hq.out Hpz.out) hb
            · by_cases hn2 : S[a + 1].toNat < 2
              · have Hpz : Hid (O.par (S.data.toList.drop a) = .error 3) := Lib.hid (by rw [hpl, if_neg (by omega), if_pos hn2])
                clear hpl hst hd hd2 ht hc0 hc1 n0 n1
                go_wp2
                exact HP.out 3 wr (error_of Hq.out Hpz.out) hb
              · have Hst := Lib.hid (hst (by omega) (by omega))
                clear hpl hst hd hd2 ht hc0 hc1 n0 n1
                generalize hnn : S[a + 1].toNat = nn at *
                generalize hkk : S[a].toNat = kk at *
                have Hx := Lib.hid (extract_ba S (a + 2) (a + nn))
                have e1 : Hid (a + nn - (a + 2) = nn - 2) := Lib.hid (by omega)
                have e2 : Hid (a + 1 + 1 + (nn - 2) = a + nn) := Lib.hid (by omega)
                have q1 : ((a : Int) + 2).toNat = a + 2 := by omega
                have q2 : ((a : Int) + (nn : Int)).toNat = a + nn := by omega
                obtain ⟨ao', cp', w3, hrun, hbuf3, hg3⟩ := append_opt w.heap.size ao cp l (wr.alloc (.cells #[.int .i64 kk, .string (S.extract (a + 2) (a + nn))] 48)) (hbuf.alloc _) kk (S.extract (a + 2) (a + nn)) wr.heap.size (by simp) (by simp) 23 (by omega) (by simp; omega)
                have hb3 : Below w.heap.size w w3 := (hb.alloc (by omega) _).grown hg3 (by simp; omega) (fun j hj => (hbuf.lt j hj).1)
                have Hrun := Lib.hid hrun
                clear hrun hg3 hbuf
                go_wp2_with (at_builtin; refine listAppend rfl _ _ _ _ rfl _ _ rfl rfl _ _ Hrun.out ?_)
                go_roundw
                case rel => exact ⟨a + nn, ao', cp', l ++ [⟨(kk : Int), S.extract (a + 2) (a + nn)⟩], by omega, by go_num, by simp, hbuf3, hb3, Lib.hid (by rw [Hq.out, Hst.out, List.drop_drop, e2.out, Hx.out, e1.out]), by simp; omega⟩
                case measure => simp [intOf]; omega
          · have hnil : S.data.toList.drop (a + 1) = [] := List.drop_eq_nil_of_le (by rw [Array.length_toList]; show S.size ≤ a + 1; omega)
            have Hpz : Hid (O.par (S.data.toList.drop a) = .error 2) := Lib.hid (by rw [hd, hnil]; exact O.par_end _ n0 n1)
            clear hnil hd hc0 hc1 n0 n1
            go_wp2
            exact HP.out 2 wr (error_of Hq.out Hpz.out) hb
    · obtain rfl : a = S.size := by omega
      have Hnil : Hid (S.data.toList.drop S.size = []) := Lib.hid (List.drop_eq_nil_of_le (by rw [Array.length_toList]; exact Nat.le_refl _))
      have Hb := Lib.hid hbuf
      clear hbuf
      go_wp2
      exact HO.out l ao cp wr (by rw [Hq.out, Hnil.out, O.par_nil]; simp [O.app]) Hb.out.row hb

set_option maxHeartbeats 400000 in
theorem refparse_long (S : ByteArray) (w : World) (hs : S.size ≤ 100000) (h : 40 < S.size) :
    Calls Tryd.prog 11 #[.string S] w (O.Parsed (.error 5) w) := by
  go_enter Tryd.func11, Tryd.ntmps11
  go_wp2
  go_ret2
  exact ⟨rfl, Below.refl _ _⟩

set_option maxHeartbeats 400000 in
theorem refparse_form (S : ByteArray) (w : World) (h : S.size ≤ 40) (h4 : S.size % 4 ≠ 0) :
    Calls Tryd.prog 11 #[.string S] w (O.Parsed (.error 3) w) := by
  have h4' : ((S.size : Int) % 4 != 0) = true := by simp; omega
  go_enter Tryd.func11, Tryd.ntmps11
  clear h4
  go_wp2
  go_ret2
  exact ⟨rfl, Below.refl _ _⟩

theorem refParse_any (S : ByteArray) (w : World) (hs : S.size ≤ 100000) : Calls Tryd.prog 11 #[.string S] w (O.Parsed (O.parse S.data.toList) w) := by
  have e : S.data.toList.length = S.size := Array.length_toList
  unfold O.parse
  rw [e]
  split
  · exact refparse_long S w hs (by omega)
  · split
    · exact refparse_form S w (by omega) (by assumption)
    · exact refparse_go S w (by omega) (by omega)
#print axioms refParse_any
end Go.Proofs.YtncnildpbccpaaaDoor
