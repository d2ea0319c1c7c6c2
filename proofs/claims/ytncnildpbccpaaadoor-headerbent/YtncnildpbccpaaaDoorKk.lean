/- The walk of the document's own options of bytes. -/
import Derived.Test.YtncnildpbccpaaaDoorKb
import Derived.Test.YtncnildpbccpaaaDoorKg
import Derived.Test.YtncnildpbccpaaaDoorKa
import Derived.Laws.StructEq
import Derived.Deep.QuietTactic
import Derived.BigQuiet
set_option maxRecDepth 100000
namespace Go.Proofs.YtncnildpbccpaaaDoor
open Go.RowKit

theorem drop_at (S : ByteArray) (a : Nat) (h : a < S.size) : S.data.toList.drop a = S[a] :: S.data.toList.drop (a + 1) :=
  List.drop_eq_getElem_cons (by simpa using h)

theorem all_at (S : ByteArray) (a : Nat) (h : a < S.size) : (S.data.toList.drop a).all (· == 0) = (S[a] == 0 && (S.data.toList.drop (a + 1)).all (· == 0)) := by rw [drop_at S a h]; rfl

theorem byte_ne {c : UInt8} {n : Nat} (hn : n < 256) (h : ¬ c.toNat = n) : c ≠ UInt8.ofNat n := fun e => h (by rw [e]; exact O.byte_eq n hn)

theorem byte_is {c : UInt8} {n : Nat} (hn : n < 256) (h : c.toNat = n) : c = UInt8.ofNat n := UInt8.toNat_inj.1 (by rw [h, O.byte_eq n hn])

theorem extract_ba (S : ByteArray) (a b : Nat) : S.extract a b = ba ((S.data.toList.drop a).take (b - a)) := by
  rw [ba_of (S.extract a b), ByteArray.data_extract, Array.toList_extract, List.extract_eq_take_drop]

set_option maxHeartbeats 4000000 in
theorem refparse_go (S : ByteArray) (w : World) (h : S.size ≤ 40) (h4 : S.size % 4 = 0) :
    Calls Tryd.prog 11 #[.string S] w (O.Parsed (O.par S.data.toList) w) := by
  obtain ⟨R, hR⟩ : ∃ R, O.par S.data.toList = R := ⟨_, rfl⟩
  have HR := Lib.hid hR
  rw [hR]
  clear hR
  have HP : Hid (∀ n w', R = .error n → Below w.heap.size w w' → O.Parsed R w (.returned (.tuple #[.slice none 0 0, .int .i64 n])) w') := Lib.hid (by rintro n w' rfl hb; exact ⟨rfl, hb⟩)
  have HO : Hid (∀ l ao cp w', R = .ok l → OptRow w' ao l → Below w.heap.size w w' → O.Parsed R w (.returned (.tuple #[.slice ao l.length cp, .int .i64 0])) w') := Lib.hid (by rintro l ao cp w' rfl h1 h2; exact ⟨ao, cp, rfl, h1, h2⟩)
  generalize hG : O.Parsed R w = G at *
  clear hG
  have h4' : ((S.size : Int) % 4 != 0) = false := by simp; omega
  go_enter Tryd.func11, Tryd.ntmps11
  go_wp2
  clear h4' h4
  go_loopw [4, 5] (fun v x wr => ∃ (a : Nat) (ao : Option Addr) (cp : Nat) (l : List Opt), a ≤ S.size ∧ x = .int .i64 a ∧ v = .slice ao l.length cp ∧ OptBuf w.heap.size ao cp l wr ∧ Below w.heap.size w wr ∧ Hid (R = O.app l (O.par (S.data.toList.drop a))) ∧ l.length ≤ a) (fun _ x _ => S.size - (intOf x).toNat)
  case atStart => exact ⟨0, none, 0, [], Nat.zero_le _, rfl, rfl, OptBuf.nil _ _, Below.refl _ _, Lib.hid (by rw [O.app_nil, List.drop_zero]; exact HR.out.symm), Nat.le_refl _⟩
  case round =>
    obtain ⟨a, ao, cp, l, ha, rfl, rfl, hbuf, hb, Hq, hla⟩ := hrel
    have hbs := hb.size
    by_cases hlt : a < S.size
    · have hd := drop_at S a hlt
      have hc := S[a].toNat_lt
      by_cases hc0 : S[a].toNat = 0
      · have hc0' : S[a] = 0 := byte_is (n := 0) (by omega) hc0
        have Hpz : Hid (O.par (S.data.toList.drop a) = if (S.data.toList.drop a).all (· == 0) then .ok [] else .error 3) := Lib.hid (by rw [hd, hc0', O.par_zero]; simp)
        clear hd
        have hz : ((S[a].toNat : Nat) : Int) = 0 := by omega
        have Hb := Lib.hid hbuf
        clear hbuf hc0'
        go_wp2
        go_loop [7] (fun y => ∃ i : Nat, a ≤ i ∧ i ≤ S.size ∧ y = .int .i64 i ∧ Hid ((S.data.toList.drop a).all (· == 0) = (S.data.toList.drop i).all (· == 0))) (fun y => S.size - (intOf y).toNat)
        case atStart => exact ⟨a, Nat.le_refl _, ha, rfl, Lib.hid rfl⟩
        case round =>
          obtain ⟨i, hai, his, rfl, Ha⟩ := hrel
          clear hz hc0
          by_cases hi : i < S.size
          · have hall := all_at S i hi
            have hci := S[i].toNat_lt
            by_cases hz0 : S[i].toNat = 0
            · have e : S[i] = 0 := byte_is (n := 0) (by omega) hz0
              have Hn : Hid ((S.data.toList.drop a).all (· == 0) = (S.data.toList.drop (i + 1)).all (· == 0)) := Lib.hid (by rw [Ha.out, hall, e]; simp)
              have hz : ((S[i].toNat : Nat) : Int) = 0 := by omega
              clear hall e hz0
              go_wp2
              go_round
              case rel => exact ⟨i + 1, by omega, by omega, by go_num, Hn⟩
              case measure => simp [intOf]; omega
            · have e : (S[i] == 0) = false := by simp; exact byte_ne (n := 0) (by omega) hz0
              have Hn : Hid (O.par (S.data.toList.drop a) = .error 3) := Lib.hid (by rw [Hpz.out, Ha.out, hall, e]; rfl)
              have hz : ¬ ((S[i].toNat : Nat) : Int) = 0 := by omega
              clear hall e
              go_wp2
              exact HP.out 3 wr (error_of Hq.out Hn.out) hb
          · obtain rfl : i = S.size := by omega
            have Hn : Hid (O.par (S.data.toList.drop a) = .ok []) := Lib.hid (by rw [Hpz.out, Ha.out, List.drop_eq_nil_of_le (by rw [Array.length_toList]; exact Nat.le_refl _)]; rfl)
            go_wp2
            exact HO.out l ao cp wr (by rw [Hq.out, Hn.out]; simp [O.app]) Hb.out.row hb
      · by_cases hc1 : S[a].toNat = 1
        · have hc1' : S[a] = 1 := byte_is (n := 1) (by omega) hc1
          have Hst : Hid (O.app l (O.par (S.data.toList.drop a)) = O.app (l ++ [⟨1, ⟨#[]⟩⟩]) (O.par (S.data.toList.drop (a + 1)))) := Lib.hid (by rw [hd, hc1', par_step_one])
          have hz : ((S[a].toNat : Nat) : Int) = 1 := by omega
          obtain ⟨ao', cp', w3, hrun, hbuf3, hg3⟩ := append_opt w.heap.size ao cp l (wr.alloc (.cells #[.int .i64 1, .string ⟨#[]⟩] 48)) (hbuf.alloc _) 1 ⟨#[]⟩ wr.heap.size (by simp) (by simp) 23 (by omega) (by simp; omega)
          have hb3 : Below w.heap.size w w3 := (hb.alloc (by omega) _).grown hg3 (by simp; omega) (fun j hj => (hbuf.lt j hj).1)
          have Hrun := Lib.hid hrun
          clear hd hc1' hc0 hc1 hrun hg3 hbuf
          go_wp2_with (at_builtin; refine listAppend rfl _ _ _ _ rfl _ _ rfl rfl _ _ Hrun.out ?_)
          go_roundw
          case rel => exact ⟨a + 1, ao', cp', l ++ [⟨1, ⟨#[]⟩⟩], by omega, by go_num, by simp, hbuf3, hb3, Lib.hid (by rw [Hq.out, Hst.out]), by simp; omega⟩
          case measure => simp [intOf]; omega
        · have n0 : S[a] ≠ 0 := byte_ne (n := 0) (by omega) hc0
          have n1 : S[a] ≠ 1 := byte_ne (n := 1) (by omega) hc1
          have y0 : ¬ ((S[a].toNat : Nat) : Int) = 0 := by omega
          have y1 : ¬ ((S[a].toNat : Nat) : Int) = 1 := by omega
          by_cases hlast : a + 1 < S.size
          · have hd2 := drop_at S (a + 1) hlast
            have hcn := S[a + 1].toNat_lt
            have ht : (S.data.toList.drop (a + 1 + 1)).length = S.size - a - 2 := by rw [List.length_drop, Array.length_toList]; show S.size - (a + 1 + 1) = _; omega
            have hpl := O.par_long S[a] S[a + 1] (S.data.toList.drop (a + 1 + 1)) n0 n1
            have hst := par_step_long l S[a] S[a + 1] (S.data.toList.drop (a + 1 + 1)) n0 n1
            rw [← hd2, ← hd, ht] at hpl hst
            by_cases hn : S.size - a < S[a + 1].toNat
            · have Hpz : Hid (O.par (S.data.toList.drop a) = .error 2) := Lib.hid (by rw [hpl, if_pos (by omega)])
              have y2 : decide ((S.size : Int) - (a : Int) < ((S[a + 1].toNat : Nat) : Int)) = true := by rw [decide_eq_true_iff]; omega
              have y3 : decide ((S.size : Int) ≤ (a : Int) + 1) = false := by rw [decide_eq_false_iff_not]; omega
              clear hpl hst hd hd2 ht hc0 hc1 n0 n1
              go_wp2
              exact HP.out 2 wr (error_of Hq.out Hpz.out) hb
            · by_cases hn2 : S[a + 1].toNat < 2
              · have Hpz : Hid (O.par (S.data.toList.drop a) = .error 3) := Lib.hid (by rw [hpl, if_neg (by omega), if_pos hn2])
                clear hpl hst hd hd2 ht hc0 hc1 n0 n1
                go_wp2
                exact HP.out 3 wr (error_of Hq.out Hpz.out) hb
              · have Hst := Lib.hid (hst (by omega) (by omega))
                clear hpl hst hd hd2 ht hc0 hc1 n0 n1
                generalize hnn : S[a + 1].toNat = nn at *
                generalize hkk : S[a].toNat = kk at *
                have Hx := Lib.hid (extract_ba S (a + 2) (a + nn))
                have e1 : Hid (a + nn - (a + 2) = nn - 2) := Lib.hid (by omega)
                have e2 : Hid (a + 1 + 1 + (nn - 2) = a + nn) := Lib.hid (by omega)
                have q1 : ((a : Int) + 2).toNat = a + 2 := by omega
                have q2 : ((a : Int) + (nn : Int)).toNat = a + nn := by omega
                obtain ⟨ao', cp', w3, hrun, hbuf3, hg3⟩ := append_opt w.heap.size ao cp l (wr.alloc (.cells #[.int .i64 kk, .string (S.extract (a + 2) (a + nn))] 48)) (hbuf.alloc _) kk (S.extract (a + 2) (a + nn)) wr.heap.size (by simp) (by simp) 23 (by omega) (by simp; omega)
                have hb3 : Below w.heap.size w w3 := (hb.alloc (by omega) _).grown hg3 (by simp; omega) (fun j hj => (hbuf.lt j hj).1)
                have Hrun := Lib.hid hrun
                clear hrun hg3 hbuf
                go_wp2_with (at_builtin; refine listAppend rfl _ _ _ _ rfl _ _ rfl rfl _ _ Hrun.out ?_)
                go_roundw
                case rel => exact ⟨a + nn, ao', cp', l ++ [⟨(kk : Int), S.extract (a + 2) (a + nn)⟩], by omega, by go_num, by simp, hbuf3, hb3, Lib.hid (by rw [Hq.out, Hst.out, List.drop_drop, e2.out, Hx.out, e1.out]), by simp; omega⟩
                case measure => simp [intOf]; omega
          · have hnil : S.data.toList.drop (a + 1) = [] := List.drop_eq_nil_of_le (by rw [Array.length_toList]; show S.size ≤ a + 1; omega)
            have Hpz : Hid (O.par (S.data.toList.drop a) = .error 2) := Lib.hid (by rw [hd, hnil]; exact O.par_end _ n0 n1)
            clear hnil hd hc0 hc1 n0 n1
            go_wp2
            exact HP.out 2 wr (error_of Hq.out Hpz.out) hb
    · obtain rfl : a = S.size := by omega
      have Hnil : Hid (S.data.toList.drop S.size = []) := Lib.hid (List.drop_eq_nil_of_le (by rw [Array.length_toList]; exact Nat.le_refl _))
      have Hb := Lib.hid hbuf
      clear hbuf
      go_wp2
      exact HO.out l ao cp wr (by rw [Hq.out, Hnil.out, O.par_nil]; simp [O.app]) Hb.out.row hb

set_option maxHeartbeats 400000 in
theorem refparse_long (S : ByteArray) (w : World) (hs : S.size ≤ 100000) (h : 40 < S.size) :
    Calls Tryd.prog 11 #[.string S] w (O.Parsed (.error 5) w) := by
  go_enter Tryd.func11, Tryd.ntmps11
  go_wp2
  go_ret2
  exact ⟨rfl, Below.refl _ _⟩

set_option maxHeartbeats 400000 in
theorem refparse_form (S : ByteArray) (w : World) (h : S.size ≤ 40) (h4 : S.size % 4 ≠ 0) :
    Calls Tryd.prog 11 #[.string S] w (O.Parsed (.error 3) w) := by
  have h4' : ((S.size : Int) % 4 != 0) = true := by simp; omega
  go_enter Tryd.func11, Tryd.ntmps11
  clear h4
  go_wp2
  go_ret2
  exact ⟨rfl, Below.refl _ _⟩

theorem refParse_any (S : ByteArray) (w : World) (hs : S.size ≤ 100000) : Calls Tryd.prog 11 #[.string S] w (O.Parsed (O.parse S.data.toList) w) := by
  have e : S.data.toList.length = S.size := Array.length_toList
  unfold O.parse
  rw [e]
  split
  · exact refparse_long S w hs (by omega)
  · split
    · exact refparse_form S w (by omega) (by assumption)
    · exact refparse_go S w (by omega) (by omega)
#print axioms refParse_any
end Go.Proofs.YtncnildpbccpaaaDoor

namespace Go.Proofs.YtncnildpbccpaaaDoor
open Go.RowKit

/-- The example's options. -/
def exOpts : List Opt := [⟨1, ⟨#[]⟩⟩, ⟨134, ⟨#[55, 55]⟩⟩]

theorem exOpts_enc : O.encoded exOpts = (⟨#[1, 134, 4, 55, 55, 0, 0, 0]⟩, 0) := by decide +kernel

theorem cell_new (w : World) (cs : Array Value) (t : TypeId) (i : Nat) (v : Value) (h : cs[i]? = some v) : (w.alloc (.cells cs t)).cell? ⟨w.heap.size, i, none⟩ = some v := by
  have e : (w.alloc (.cells cs t)).heap[w.heap.size]? = some (.cells cs t) := heap_alloc_new w _
  simp only [World.cell?, e]
  exact h

theorem exOpts_row (w : World) : OptRow (w.alloc (.cells #[.int .i64 1, .string ⟨#[]⟩, .int .i64 134, .string ⟨#[55, 55]⟩] 48)) (some ⟨w.heap.size, 0, none⟩) exOpts := by
  refine .inr ⟨w.heap.size, 0, rfl, by simp, fun i hi => ?_⟩
  match i, hi with
  | 0, _ => exact ⟨cell_new w _ _ 0 _ rfl, cell_new w _ _ 1 _ rfl⟩
  | 1, _ => exact ⟨cell_new w _ _ 2 _ rfl, cell_new w _ _ 3 _ rfl⟩

theorem exOpts_small : ∀ o ∈ exOpts, o.data.size ≤ 100 := by
  intro o ho
  simp [exOpts] at ho
  rcases ho with rfl | rfl <;> decide

set_option maxHeartbeats 400000 in
theorem awake4_any (w : World) :
    Calls Tryd.prog 9 #[] w fun e w' => e = .returned (.bool true) ∧ Below w.heap.size w w' := by
  go_enter Tryd.func9, Tryd.ntmps9
  go_wp2_with fail
  refine (optEnc_any _ 2 exOpts _ (exOpts_row w) (by decide) exOpts_small).mono ?_
  rintro e w1 ⟨rfl, hb1⟩
  rw [exOpts_enc]
  have hb : Below w.heap.size w w1 := ((Below.refl _ w).alloc (Nat.le_refl _) _).trans (hb1.mono (by simp))
  clear hb1
  go_wp2
  go_ret
  exact ⟨rfl, hb⟩
#print axioms awake4_any
end Go.Proofs.YtncnildpbccpaaaDoor

namespace Go.Proofs.YtncnildpbccpaaaDoor
open Go.RowKit

deriving instance DecidableEq for Opt

theorem below_drewN {base : Nat} {w w' : World} (h : Below base w w') (n : Nat) : Below base w (w'.drewN n) := by
  induction n with
  | zero => exact h
  | succ k ih => exact ih.drew

/-- The model's '!=' at two options. -/
theorem neq_opt (k1 k2 : Int) (d1 d2 : ByteArray) (w : World) : (binOp .neq 48 (.agg #[.int .i64 k1, .string d1]) (.agg #[.int .i64 k2, .string d2])).run Tryd.prog w = .ok (.bool (!(k1 == k2 && d1.toList == d2.toList))) w := by
  have u3 := Tryd.underlying3
  have a3 := Tryd.isAgg3
  have z3 := Tryd.sizeOf3
  have u9 := Tryd.underlying9
  have a9 := Tryd.isAgg9
  have z9 := Tryd.sizeOf9
  have hS : Tryd.prog.underlying 48 = some (.struct (Tryd.prog.fieldsOf 48)) := by kernel_rfl
  have hp : Tryd.prog.stoodInHeld 48 = false := by kernel_rfl
  rw [run_neq_struct, show (10000 : Nat) = 9999 + 1 from rfl, run_equalIn_agg w 9999 48 _ _ hS hp]
  simp only [Program.fieldsOf, Tryd.underlying48]
  go_simp
  by_cases h1 : k1 = k2
  · by_cases h2 : d1.toList = d2.toList <;> simp [h1, h2]
  · simp [h1]

theorem guard_opt : Tryd.prog.eqGuardType Tryd.prog.depth 48 = false := by kernel_rfl

theorem opt_ext {a b : Opt} : a = b ↔ (a.kind = b.kind ∧ a.data = b.data) := by
  cases a; cases b; simp

theorem eq_opt (k1 k2 : Int) (d1 d2 : ByteArray) : (k1 == k2 && d1.toList == d2.toList) = decide ((⟨k1, d1⟩ : Opt) = ⟨k2, d2⟩) := by
  rw [Bool.eq_iff_iff, Bool.and_eq_true, beq_iff_eq, beq_iff_eq, decide_eq_true_iff, Opt.mk.injEq, Lib.toList_data, Lib.toList_data]
  refine and_congr Iff.rfl ⟨fun h => ?_, fun h => by rw [h]⟩
  cases d1; cases d2; simp at h; simp [h]

theorem take_eq_next (l m : List Opt) (k : Nat) (h1 : k < l.length) (h2 : k < m.length) (h : l.take k = m.take k) (he : l.getD k noOpt = m.getD k noOpt) : l.take (k + 1) = m.take (k + 1) := by
  rw [getD_take l k h1, getD_take m k h2, h, he]

theorem ne_at (l m : List Opt) (k : Nat) (h : ¬ l.getD k noOpt = m.getD k noOpt) : ¬ l = m := fun e => h (by rw [e])

def sameB (l m : List Opt) : Bool := decide (l = m)
theorem sameB_refl (l : List Opt) : sameB l l = true := by simp [sameB]

set_option maxHeartbeats 1000000 in
theorem same_any (a1 a2 : Option Addr) (c1 c2 : Nat) (l m : List Opt) (w : World) (h1 : OptRow w a1 l) (h2 : OptRow w a2 m) (hl : l.length ≤ maxLen) (_hm : m.length ≤ maxLen) :
    Calls Tryd.prog 12 #[.slice a1 l.length c1, .slice a2 m.length c2] w fun e w' => e = .returned (.bool (sameB l m)) ∧ Below w.heap.size w w' := by
  unfold maxLen at hl
  have Hrow1 := Lib.hid h1
  have Hrow2 := Lib.hid h2
  clear h1 h2
  obtain ⟨r, hr⟩ : ∃ r, sameB l m = r := ⟨_, rfl⟩
  have Hr := Lib.hid (show decide (l = m) = r from hr)
  rw [hr]
  clear hr
  by_cases hlen : l.length = m.length
  · have Hlen := Lib.hid hlen
    have hle : m.length ≤ l.length := by omega
    have hne : ((l.length : Int) != (m.length : Int)) = false := by simp; omega
    go_enter Tryd.func12, Tryd.ntmps12
    clear hlen
    go_wp2
    clear hne
    go_loopw [5] (fun i wr => ∃ k : Nat, k ≤ l.length ∧ i = .int .i64 k ∧ Hid (l.take k = m.take k) ∧ Below w.heap.size w wr) (fun i _ => l.length - (intOf i).toNat)
    case atStart => exact ⟨0, Nat.zero_le _, rfl, Lib.hid rfl, Below.refl _ _⟩
    case round =>
      obtain ⟨k, hk, rfl, Ha, hb⟩ := hrel
      by_cases hlt : k < l.length
      · have hlt2 : k < m.length := by have := Hlen.out; omega
        obtain ⟨b, off, rfl, hbl, c0, c1⟩ := Hrow1.out.then hb k hlt
        obtain ⟨b', off', rfl, hbl', d0, d1⟩ := Hrow2.out.then hb k hlt2
        have Hq := Lib.hid (take_eq_next l m k hlt hlt2 Ha.out)
        have Hn := Lib.hid (ne_at l m k)
        generalize l.getD k noOpt = o at *
        generalize m.getD k noOpt = o' at *
        obtain ⟨kd, d⟩ := o
        obtain ⟨kd', d'⟩ := o'
        simp only at c0 c1 d0 d1
        have q3 : (k : Int) < (l.length : Int) := by omega
        have q4 : (k : Int) < (m.length : Int) := by omega
        have hgd := guard_opt
        by_cases he : (⟨kd, d⟩ : Opt) = ⟨kd', d'⟩
        · have He := Lib.hid he
          have hneq : ∀ W, (binOp .neq 48 (.agg #[.int .i64 kd, .string d]) (.agg #[.int .i64 kd', .string d'])).run Tryd.prog W = .ok (.bool false) W := fun W => by rw [neq_opt, eq_opt, decide_eq_true he]; rfl
          clear he
          go_wp2
          go_quiet (fail)
          go_wp2
          go_roundw
          case rel => exact ⟨k + 1, by omega, by go_num, Lib.hid (Hq.out He.out), below_drewN hb _⟩
          case measure => simp [intOf]; omega
        · have He := Lib.hid he
          have hneq : ∀ W, (binOp .neq 48 (.agg #[.int .i64 kd, .string d]) (.agg #[.int .i64 kd', .string d'])).run Tryd.prog W = .ok (.bool true) W := fun W => by rw [neq_opt, eq_opt, decide_eq_false he]; rfl
          clear he
          go_wp2
          go_quiet (fail)
          go_wp2
          go_ret
          exact ⟨ret_bool (by rw [← Hr.out, decide_eq_false (Hn.out He.out)]), below_drewN hb _⟩
      · go_wp2
        go_ret
        exact ⟨ret_bool (by rw [← Hr.out, decide_eq_true]; have := Ha.out; rw [List.take_of_length_le (by omega), List.take_of_length_le (by have := Hlen.out; omega)] at this; exact this), hb⟩
  · have hne : ((l.length : Int) != (m.length : Int)) = true := by simp; omega
    have Hlen := Lib.hid hlen
    go_enter Tryd.func12, Tryd.ntmps12
    clear hlen
    go_wp2
    go_ret
    exact ⟨ret_bool (by rw [← Hr.out, decide_eq_false]; intro e; exact Hlen.out (by rw [e])), Below.refl _ _⟩
set_option maxHeartbeats 1000000 in
theorem equal_any (a1 a2 : Option Addr) (c1 c2 : Nat) (l m : List Opt) (w : World) (h1 : OptRow w a1 l) (h2 : OptRow w a2 m) (hl : l.length ≤ maxLen) (_hm : m.length ≤ maxLen) :
    Calls Tryd.prog 33 #[.slice a1 l.length c1, .slice a2 m.length c2] w fun e w' => e = .returned (.bool (sameB l m)) ∧ Below w.heap.size w w' := by
  unfold maxLen at hl
  have Hrow1 := Lib.hid h1
  have Hrow2 := Lib.hid h2
  clear h1 h2
  obtain ⟨r, hr⟩ : ∃ r, sameB l m = r := ⟨_, rfl⟩
  have Hr := Lib.hid (show decide (l = m) = r from hr)
  rw [hr]
  clear hr
  by_cases hlen : l.length = m.length
  · have Hlen := Lib.hid hlen
    have hle : m.length ≤ l.length := by omega
    have hne : ((l.length : Int) != (m.length : Int)) = false := by simp; omega
    go_enter Tryd.func33, Tryd.ntmps33
    clear hlen
    go_wp2
    clear hne
    go_loopw [13] (fun i wr => ∃ k : Nat, k ≤ l.length ∧ i = .int .i64 k ∧ Hid (l.take k = m.take k) ∧ Below w.heap.size w wr) (fun i _ => l.length - (intOf i).toNat)
    case atStart => exact ⟨0, Nat.zero_le _, rfl, Lib.hid rfl, Below.refl _ _⟩
    case round =>
      obtain ⟨k, hk, rfl, Ha, hb⟩ := hrel
      by_cases hlt : k < l.length
      · have hlt2 : k < m.length := by have := Hlen.out; omega
        obtain ⟨b, off, rfl, hbl, c0, c1⟩ := Hrow1.out.then hb k hlt
        obtain ⟨b', off', rfl, hbl', d0, d1⟩ := Hrow2.out.then hb k hlt2
        have Hq := Lib.hid (take_eq_next l m k hlt hlt2 Ha.out)
        have Hn := Lib.hid (ne_at l m k)
        generalize l.getD k noOpt = o at *
        generalize m.getD k noOpt = o' at *
        obtain ⟨kd, d⟩ := o
        obtain ⟨kd', d'⟩ := o'
        simp only at c0 c1 d0 d1
        have q3 : (k : Int) < (l.length : Int) := by omega
        have q4 : (k : Int) < (m.length : Int) := by omega
        have hgd := guard_opt
        by_cases he : (⟨kd, d⟩ : Opt) = ⟨kd', d'⟩
        · have He := Lib.hid he
          have hneq : ∀ W, (binOp .neq 48 (.agg #[.int .i64 kd, .string d]) (.agg #[.int .i64 kd', .string d'])).run Tryd.prog W = .ok (.bool false) W := fun W => by rw [neq_opt, eq_opt, decide_eq_true he]; rfl
          clear he
          go_wp2
          go_quiet (fail)
          go_wp2
          go_roundw
          case rel => exact ⟨k + 1, by omega, by go_num, Lib.hid (Hq.out He.out), below_drewN hb _⟩
          case measure => simp [intOf]; omega
        · have He := Lib.hid he
          have hneq : ∀ W, (binOp .neq 48 (.agg #[.int .i64 kd, .string d]) (.agg #[.int .i64 kd', .string d'])).run Tryd.prog W = .ok (.bool true) W := fun W => by rw [neq_opt, eq_opt, decide_eq_false he]; rfl
          clear he
          go_wp2
          go_quiet (fail)
          go_wp2
          go_ret
          exact ⟨ret_bool (by rw [← Hr.out, decide_eq_false (Hn.out He.out)]), below_drewN hb _⟩
      · go_wp2
        go_ret
        exact ⟨ret_bool (by rw [← Hr.out, decide_eq_true]; have := Ha.out; rw [List.take_of_length_le (by omega), List.take_of_length_le (by have := Hlen.out; omega)] at this; exact this), hb⟩
  · have hne : ((l.length : Int) != (m.length : Int)) = true := by simp; omega
    have Hlen := Lib.hid hlen
    go_enter Tryd.func33, Tryd.ntmps33
    clear hlen
    go_wp2
    go_ret
    exact ⟨ret_bool (by rw [← Hr.out, decide_eq_false]; intro e; exact Hlen.out (by rw [e])), Below.refl _ _⟩

set_option maxHeartbeats 400000 in
theorem optSame_any (a1 a2 : Option Addr) (c1 c2 : Nat) (l m : List Opt) (w : World) (h1 : OptRow w a1 l) (h2 : OptRow w a2 m) (hl : l.length ≤ maxLen) (_hm : m.length ≤ maxLen) :
    Calls Tryd.prog 15 #[.slice a1 l.length c1, .slice a2 m.length c2] w fun e w' => e = .returned (.bool (sameB l m)) ∧ Below w.heap.size w w' := by
  have H := Lib.hid (equal_any a1 a2 c1 c2 l m w h1 h2 hl _hm)
  clear h1 h2
  go_enter Tryd.func15, Tryd.ntmps15
  go_wp2_with fail
  refine H.out.mono ?_
  rintro e w1 ⟨rfl, hb⟩
  go_wp2
  go_ret
  exact ⟨rfl, hb⟩
#print axioms same_any
#print axioms optSame_any
end Go.Proofs.YtncnildpbccpaaaDoor

namespace Go.Proofs.YtncnildpbccpaaaDoor
open Go.RowKit

namespace O
theorem par_err (N : Nat) : ∀ (s : List UInt8), s.length ≤ N → ∀ n, par s = .error n → n = 2 ∨ n = 3 := by
  induction N with
  | zero =>
    intro s hs n h
    obtain rfl : s = [] := List.length_eq_zero_iff.1 (by omega)
    rw [par_nil] at h; cases h
  | succ N ih =>
    intro s hs n h
    match s, hs, h with
    | [], _, h => rw [par_nil] at h; cases h
    | k :: t, hs, h =>
      have hs' : t.length ≤ N := by simpa using hs
      by_cases h0 : k = 0
      · subst h0
        rw [par_zero] at h
        split at h
        · cases h
        · cases h; exact .inr rfl
      · by_cases h1 : k = 1
        · subst h1
          rw [par_one] at h
          cases hp : par t with
          | ok l => rw [hp] at h; cases h
          | error e =>
            rw [hp] at h
            cases h
            exact ih t hs' _ hp
        · match t, hs', h with
          | [], _, h => rw [par_end k h0 h1] at h; cases h; exact .inl rfl
          | m :: u, hs', h =>
            have hs2 : u.length + 1 ≤ N := by simpa using hs'
            rw [par_long k m u h0 h1] at h
            split at h
            · cases h; exact .inl rfl
            · split at h
              · cases h; exact .inr rfl
              · cases hp : par (u.drop (m.toNat - 2)) with
                | ok l => rw [hp] at h; cases h
                | error e =>
                  rw [hp] at h
                  cases h
                  exact ih _ (by rw [List.length_drop]; omega) _ hp

theorem parse_err (s : List UInt8) (n : Nat) (h : parse s = .error n) : 2 ≤ n ∧ n ≤ 5 := by
  unfold parse at h
  split at h
  · cases h; omega
  · split at h
    · cases h; omega
    · rcases par_err s.length s (Nat.le_refl _) n h with h | h <;> omega

theorem par_len (N : Nat) : ∀ (s : List UInt8), s.length ≤ N → ∀ l, par s = .ok l → l.length ≤ s.length := by
  induction N with
  | zero =>
    intro s hs l h
    obtain rfl : s = [] := List.length_eq_zero_iff.1 (by omega)
    rw [par_nil] at h; cases h; simp
  | succ N ih =>
    intro s hs l h
    match s, hs, h with
    | [], _, h => rw [par_nil] at h; cases h; simp
    | k :: t, hs, h =>
      have hs' : t.length ≤ N := by simpa using hs
      by_cases h0 : k = 0
      · subst h0
        rw [par_zero] at h
        split at h
        · cases h; simp
        · cases h
      · by_cases h1 : k = 1
        · subst h1
          rw [par_one] at h
          cases hp : par t with
          | ok m =>
            rw [hp] at h
            cases h
            have := ih t hs' _ hp
            simp; omega
          | error e => rw [hp] at h; cases h
        · match t, hs', h with
          | [], _, h => rw [par_end k h0 h1] at h; cases h
          | m :: u, hs', h =>
            have hs2 : u.length + 1 ≤ N := by simpa using hs'
            rw [par_long k m u h0 h1] at h
            split at h
            · cases h
            · split at h
              · cases h
              · cases hp : par (u.drop (m.toNat - 2)) with
                | ok x =>
                  rw [hp] at h
                  cases h
                  have := ih _ (by rw [List.length_drop]; omega) _ hp
                  rw [List.length_drop] at this
                  simp; omega
                | error e => rw [hp] at h; cases h

theorem parse_len (s : List UInt8) (l : List Opt) (h : parse s = .ok l) : l.length ≤ 40 := by
  unfold parse at h
  split at h
  · cases h
  · split at h
    · cases h
    · have := par_len s.length s (Nat.le_refl _) l h; omega
end O

set_option maxHeartbeats 400000 in
theorem parl_long (S : ByteArray) (w : World) (hs : S.size ≤ maxLen) (h : 200 < S.size) :
    Calls Tryd.prog 3 #[.string S] w fun e w' => e = .returned (.bool true) ∧ Below w.heap.size w w' := by
  unfold maxLen at hs
  go_enter Tryd.func3, Tryd.ntmps3
  go_wp2_with fail
  refine (awake4_any _).mono ?_
  rintro e w1 ⟨rfl, hb⟩
  go_wp2
  go_ret
  exact ⟨rfl, hb⟩

set_option maxHeartbeats 1000000 in
theorem parl_err (s : List UInt8) (w : World) (hs : s.length ≤ 200) (n : Nat) (h : O.parse s = .error n) :
    Calls Tryd.prog 3 #[.string (ba s)] w fun e w' => e = .returned (.bool true) ∧ Below w.heap.size w w' := by
  have hn := O.parse_err s n h
  have H1 := Lib.hid (fun w => optParse_any s w (by omega))
  have H2 := Lib.hid (fun w => refParse_any (ba s) w (by rw [ba_size]; omega))
  rw [ba_list] at H2
  rw [h] at H1 H2
  have hz := ba_size s
  clear h
  go_enter Tryd.func3, Tryd.ntmps3
  go_wp2_with fail
  refine (H1.out w).mono ?_
  rintro e w1 ⟨rfl, hb1⟩
  go_wp2_with fail
  refine (H2.out w1).mono ?_
  rintro e w2 ⟨rfl, hbn⟩
  have hb2 := hb1.trans (hbn.mono hb1.size)
  clear hbn hb1
  have hne : ((n : Int) != 0) = true := by simp; omega
  have hne2 : ((n : Int) == 0) = false := by simp; omega
  go_wp2_with fail
  refine (awake4_any _).mono ?_
  rintro e w3 ⟨rfl, hbn⟩
  have hb3 := hb2.trans (hbn.mono hb2.size)
  clear hbn hb2
  go_wp2
  go_ret
  exact ⟨rfl, hb3⟩

set_option maxHeartbeats 1000000 in
theorem parl_ok (s : List UInt8) (w : World) (hs : s.length ≤ 200) (l : List Opt) (h : O.parse s = .ok l) :
    Calls Tryd.prog 3 #[.string (ba s)] w fun e w' => e = .returned (.bool true) ∧ Below w.heap.size w w' := by
  have hl := O.parse_len s l h
  have H1 := Lib.hid (fun w => optParse_any s w (by omega))
  have H2 := Lib.hid (fun w => refParse_any (ba s) w (by rw [ba_size]; omega))
  rw [ba_list] at H2
  rw [h] at H1 H2
  have hz := ba_size s
  have Hs := Lib.hid (sameB_refl l)
  clear h
  go_enter Tryd.func3, Tryd.ntmps3
  go_wp2_with fail
  refine (H1.out w).mono ?_
  rintro e w1 ⟨ao, cp, rfl, hrow1, hb1⟩
  go_wp2_with fail
  refine (H2.out w1).mono ?_
  rintro e w2 ⟨ao2, cp2, rfl, hrow2, hbn⟩
  have hb2 := hb1.trans (hbn.mono hb1.size)
  have Hrow1 := Lib.hid (hrow1.carry hbn)
  have Hrow2 := Lib.hid hrow2
  clear hbn hb1 hrow1 hrow2
  go_wp2_with fail
  refine (same_any ao ao2 cp cp2 l l w2 Hrow1.out Hrow2.out (by unfold maxLen; omega) (by unfold maxLen; omega)).mono ?_
  rintro e w3 ⟨rfl, hbn⟩
  rw [Hs.out]
  have hb3 := hb2.trans (hbn.mono hb2.size)
  clear hbn hb2
  go_wp2_with fail
  refine (awake4_any _).mono ?_
  rintro e w4 ⟨rfl, hbn⟩
  have hb4 := hb3.trans (hbn.mono hb3.size)
  clear hbn hb3
  go_wp2
  go_ret
  exact ⟨rfl, hb4⟩

theorem parl_all (S : ByteArray) (w : World) (hs : S.size ≤ maxLen) :
    Calls Tryd.prog 3 #[.string S] w fun e w' => e = .returned (.bool true) ∧ Below w.heap.size w w' := by
  by_cases h : 200 < S.size
  · exact parl_long S w hs h
  · rw [ba_of S]
    have hl : S.data.toList.length ≤ 200 := by rw [Array.length_toList]; show S.size ≤ 200; omega
    cases hp : O.parse S.data.toList with
    | error n => exact parl_err _ w hl n hp
    | ok l => exact parl_ok _ w hl l hp

set_option maxHeartbeats 400000 in
theorem backl_great (a : Option Addr) (cap : Nat) (l : List Opt) (w : World) (h : OptRow w a l) (hl : l.length ≤ maxLen) (hd : ∀ o ∈ l, o.data.size ≤ maxLen) (hg : O.great l = true) :
    Calls Tryd.prog 4 #[.slice a l.length cap] w fun e w' => e = .returned (.bool true) ∧ Below w.heap.size w w' := by
  have H1 := Lib.hid (great_any a cap l w h hl hd)
  have Hg := Lib.hid hg
  clear h hl hd hg
  go_enter Tryd.func4, Tryd.ntmps4
  go_wp2_with fail
  refine H1.out.mono ?_
  rintro e w1 ⟨rfl, rfl⟩
  rw [Hg.out]
  go_wp2_with fail
  refine (awake4_any _).mono ?_
  rintro e w2 ⟨rfl, hb⟩
  go_wp2
  go_ret
  exact ⟨rfl, hb⟩

set_option maxHeartbeats 1000000 in
theorem backl_no (a : Option Addr) (cap : Nat) (l : List Opt) (w : World) (h : OptRow w a l) (hl : l.length ≤ maxLen) (hd : ∀ o ∈ l, o.data.size ≤ maxLen) (hg : O.great l = false) (z : Int) (hz : z ≠ 0) (he : (O.encoded l).2 = z) :
    Calls Tryd.prog 4 #[.slice a l.length cap] w fun e w' => e = .returned (.bool true) ∧ Below w.heap.size w w' := by
  have H1 := Lib.hid (great_any a cap l w h hl hd)
  have Hg := Lib.hid hg
  obtain ⟨hl6, hd1⟩ := great_not l hg
  have H2 := Lib.hid (optEnc_any a cap l w h hl6 hd1)
  rw [he] at H2
  have hz' : (z != 0) = true := by simp [hz]
  clear h hl hd hg hd1 he hz
  go_enter Tryd.func4, Tryd.ntmps4
  go_wp2_with fail
  refine H1.out.mono ?_
  rintro e w1 ⟨rfl, rfl⟩
  rw [Hg.out]
  go_wp2_with fail
  refine H2.out.mono ?_
  rintro e w1 ⟨rfl, hb1⟩
  go_wp2_with fail
  refine (awake4_any _).mono ?_
  rintro e w2 ⟨rfl, hbn⟩
  have hb2 := hb1.trans (hbn.mono hb1.size)
  go_wp2
  go_ret
  exact ⟨rfl, hb2⟩

set_option maxHeartbeats 1000000 in
theorem backl_yes (a : Option Addr) (cap : Nat) (l : List Opt) (w : World) (h : OptRow w a l) (hl : l.length ≤ maxLen) (hd : ∀ o ∈ l, o.data.size ≤ maxLen) (hg : O.great l = false) (hr : l.all O.right = true) (hs : ¬ 40 < O.size l) :
    Calls Tryd.prog 4 #[.slice a l.length cap] w fun e w' => e = .returned (.bool true) ∧ Below w.heap.size w w' := by
  have H1 := Lib.hid (great_any a cap l w h hl hd)
  have Hg := Lib.hid hg
  obtain ⟨hl6, hd1⟩ := great_not l hg
  have H2 := Lib.hid (optEnc_ok a cap l w h hl6 hd1 hr hs)
  have H3 := Lib.hid (fun w => optParse_any (O.enc l) w (by rw [O.enc_length]; omega))
  rw [O.parse_enc l hr (by omega)] at H3
  have Hrow := Lib.hid h
  have Hlm := Lib.hid hl
  have Hs := Lib.hid (sameB_refl l)
  change Hid (∀ w, Calls Tryd.prog 10 #[.string ⟨(O.enc l).toArray⟩] w (O.Parsed (.ok l) w)) at H3
  generalize (⟨(O.enc l).toArray⟩ : ByteArray) = t at *
  clear h hl hd hg hd1 hr hs
  go_enter Tryd.func4, Tryd.ntmps4
  go_wp2_with fail
  refine H1.out.mono ?_
  rintro e w1 ⟨rfl, rfl⟩
  rw [Hg.out]
  go_wp2_with fail
  refine H2.out.mono ?_
  rintro e w1 ⟨rfl, hb1⟩
  go_wp2_with fail
  refine (H3.out w1).mono ?_
  rintro e w2 ⟨ao, cp, rfl, hrow2, hbn⟩
  have hb2 := hb1.trans (hbn.mono hb1.size)
  have Hrow2 := Lib.hid hrow2
  clear hbn hb1 hrow2
  go_wp2_with fail
  refine (same_any ao a cp cap l l w2 Hrow2.out (Hrow.out.carry hb2) Hlm.out Hlm.out).mono ?_
  rintro e w3 ⟨rfl, hbn⟩
  rw [Hs.out]
  have hb3 := hb2.trans (hbn.mono hb2.size)
  have Hrow3 := Lib.hid (Hrow2.out.carry hbn)
  clear hbn hb2
  go_wp2_with fail
  refine (optSame_any ao a cp cap l l w3 Hrow3.out (Hrow.out.carry hb3) Hlm.out Hlm.out).mono ?_
  rintro e w4 ⟨rfl, hbn⟩
  rw [Hs.out]
  have hb4 := hb3.trans (hbn.mono hb3.size)
  clear hbn hb3
  go_wp2_with fail
  refine (awake4_any _).mono ?_
  rintro e w5 ⟨rfl, hbn⟩
  have hb5 := hb4.trans (hbn.mono hb4.size)
  clear hbn hb4
  go_wp2
  go_ret
  exact ⟨rfl, hb5⟩

theorem backl_all (a : Option Addr) (cap : Nat) (l : List Opt) (w : World) (h : OptRow w a l) (hl : l.length ≤ maxLen) (hd : ∀ o ∈ l, o.data.size ≤ maxLen) :
    Calls Tryd.prog 4 #[.slice a l.length cap] w fun e w' => e = .returned (.bool true) ∧ Below w.heap.size w w' := by
  cases hg : O.great l with
  | true => exact backl_great a cap l w h hl hd hg
  | false =>
    cases hr : l.all O.right with
    | false => exact backl_no a cap l w h hl hd hg 1 (by decide) (by rw [O.encoded_bad l hr])
    | true =>
      by_cases hs : 40 < O.size l
      · exact backl_no a cap l w h hl hd hg 5 (by decide) (by rw [O.encoded_long l hr hs])
      · exact backl_yes a cap l w h hl hd hg hr hs
#print axioms parl_all
#print axioms backl_all
end Go.Proofs.YtncnildpbccpaaaDoor

