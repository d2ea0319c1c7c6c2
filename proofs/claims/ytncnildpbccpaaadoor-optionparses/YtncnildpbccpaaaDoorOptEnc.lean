/- The walk of options' bytes. -/
import Derived.Test.YtncnildpbccpaaaDoorOptWrite
import Derived.Test.YtncnildpbccpaaaDoorOptRefEnc
import Derived.Test.YtncnildpbccpaaaDoorShelf
namespace Go.Proofs.YtncnildpbccpaaaDoor
set_option maxRecDepth 100000
open Go.RowKit

namespace O
/-- Options' bytes, and the error. -/
def encoded (l : List Opt) : ByteArray × Int := if l.all right then (if 40 < size l then (⟨#[]⟩, 5) else (⟨(enc l).toArray⟩, 0)) else (⟨#[]⟩, 1)
theorem encoded_bad (l : List Opt) (h : l.all right = false) : encoded l = (⟨#[]⟩, 1) := by unfold encoded; rw [h]; rfl
theorem encoded_long (l : List Opt) (h : l.all right = true) (hs : 40 < size l) : encoded l = (⟨#[]⟩, 5) := by unfold encoded; rw [h, if_pos rfl, if_pos hs]
theorem encoded_ok (l : List Opt) (h : l.all right = true) (hs : ¬ 40 < size l) : encoded l = (⟨(enc l).toArray⟩, 0) := by unfold encoded; rw [h, if_pos rfl, if_neg hs]
end O

theorem repeat_zero (p : Nat) : Lib.repeatL [(0 : UInt8)] p = List.replicate p 0 := by
  induction p with
  | zero => rfl
  | succ n ih => simp [Lib.repeatL, List.replicate_succ, ← ih]

set_option maxHeartbeats 1000000 in
theorem optEnc_bad (a : Option Addr) (cap : Nat) (l : List Opt) (w : World) (h : OptRow w a l) (hl : l.length ≤ 60) (hd : ∀ o ∈ l, o.data.size ≤ 100) (hr : l.all O.right = false) :
    Calls Tryd.prog 14 #[.slice a l.length cap] w fun e w' => e = .returned (.tuple #[.string ⟨#[]⟩, .int .i64 1]) ∧ Below w.heap.size w w' := by
  have Hr := Lib.hid hr
  have H1 := Lib.hid (optRight_any a cap l w h (by unfold maxLen; omega) (fun o ho => by have := hd o ho; unfold maxLen; omega))
  clear hr h hd
  go_enter Tryd.func14, Tryd.ntmps14
  go_wp2_with fail
  refine H1.out.mono ?_
  rintro e w1 ⟨rfl, hb1⟩
  rw [Hr.out]
  go_wp2
  go_ret2
  exact ⟨rfl, hb1⟩

set_option maxHeartbeats 1000000 in
theorem optEnc_long (a : Option Addr) (cap : Nat) (l : List Opt) (w : World) (h : OptRow w a l) (hl : l.length ≤ 60) (hd : ∀ o ∈ l, o.data.size ≤ 100) (hr : l.all O.right = true) (hs : 40 < O.size l) :
    Calls Tryd.prog 14 #[.slice a l.length cap] w fun e w' => e = .returned (.tuple #[.string ⟨#[]⟩, .int .i64 5]) ∧ Below w.heap.size w w' := by
  have Hr := Lib.hid hr
  have Hrow := Lib.hid h
  have Hd := Lib.hid hd
  have H1 := Lib.hid (optRight_any a cap l w h (by unfold maxLen; omega) (fun o ho => by have := hd o ho; unfold maxLen; omega))
  clear hr h hd
  go_enter Tryd.func14, Tryd.ntmps14
  go_wp2_with fail
  refine H1.out.mono ?_
  rintro e w1 ⟨rfl, hb1⟩
  rw [Hr.out]
  go_wp2_with fail
  refine (optSize_any a cap l w1 (Hrow.out.carry hb1) hl Hd.out).mono ?_
  rintro e w2 ⟨rfl, hb2⟩
  have hb : Below w.heap.size w w2 := hb1.trans (hb2.mono hb1.size)
  clear hb1 hb2 H1
  generalize O.size l = z at *
  go_wp2
  go_ret2
  exact ⟨rfl, hb⟩

set_option maxHeartbeats 2000000 in
theorem optEnc_ok (a : Option Addr) (cap : Nat) (l : List Opt) (w : World) (h : OptRow w a l) (hl : l.length ≤ 60) (hd : ∀ o ∈ l, o.data.size ≤ 100) (hr : l.all O.right = true) (hs : ¬ 40 < O.size l) :
    Calls Tryd.prog 14 #[.slice a l.length cap] w fun e w' => e = .returned (.tuple #[.string ⟨(O.enc l).toArray⟩, .int .i64 0]) ∧ Below w.heap.size w w' := by
  have Hr := Lib.hid hr
  have Hrow := Lib.hid h
  have Hd := Lib.hid hd
  have H1 := Lib.hid (optRight_any a cap l w h (by unfold maxLen; omega) (fun o ho => by have := hd o ho; unfold maxLen; omega))
  obtain ⟨r, hr'⟩ : ∃ r : ByteArray, (⟨(O.enc l).toArray⟩ : ByteArray) = r := ⟨_, rfl⟩
  have Ht := Lib.hid hr'
  rw [hr']
  clear hr h hd hr'
  go_enter Tryd.func14, Tryd.ntmps14
  go_wp2_with fail
  refine H1.out.mono ?_
  rintro e w1 ⟨rfl, hb1⟩
  rw [Hr.out]
  go_wp2_with fail
  refine (optSize_any a cap l w1 (Hrow.out.carry hb1) hl Hd.out).mono ?_
  rintro e w2 ⟨rfl, hb2⟩
  have hb : Below w.heap.size w w2 := hb1.trans (hb2.mono hb1.size)
  have hbs := hb.size
  clear hb1 hb2 H1
  have Hsz := Lib.hid (show O.size l = O.raw l + O.pad (O.raw l) from rfl)
  have Hen := Lib.hid (show O.enc l = O.encRaw l ++ List.replicate (O.pad (O.raw l)) 0 from rfl)
  have hraw : O.raw l ≤ 40 := by have := Hsz.out; omega
  generalize O.size l = z at *
  go_wp2
  have hw0 := Wr.new w2
  generalize hB : w2.heap.size = B at *
  have hb0 : Below w.heap.size w (w2.alloc (.cells #[.bool false, .slice none 0 0] 63)) := hb.alloc (by omega) _
  clear hB hb
  generalize (w2.alloc (.cells #[.bool false, .slice none 0 0] 63)) = w3 at *
  go_loopw [21] (fun i wr => ∃ (k : Nat) (m : List UInt8), k ≤ l.length ∧ i = .int .i64 k ∧ Wr B B m wr ∧ Hid (m = O.encRaw (l.take k)) ∧ Below w.heap.size w wr) (fun i _ => l.length - (intOf i).toNat)
  case atStart => exact ⟨0, [], Nat.zero_le _, rfl, hw0, Lib.hid rfl, hb0⟩
  case round =>
    obtain ⟨k, m, hk, rfl, hwr, Hm, hb⟩ := hrel
    have hbs2 := hb.size
    by_cases hlt : k < l.length
    · obtain ⟨b, off, rfl, hbl, c0, c1⟩ := Hrow.out.then hb k hlt
      have Hq := Lib.hid (encRaw_take l k hlt)
      have hro := List.all_eq_true.1 Hr.out _ (getD_mem l k hlt)
      have hml : m.length ≤ 9000 := by rw [Hm.out, O.encRaw_length]; have := raw_take_le l k (by omega) Hd.out; omega
      generalize l.getD k noOpt = o at *
      obtain ⟨kd, d⟩ := o
      simp only at c0 c1
      have Hro := Lib.hid hro
      clear hro
      go_wp2_with fail
      refine (write_any B B m ⟨kd, d⟩ _ (hwr.alloc _) hml Hro.out).mono ?_
      rintro e w4 ⟨rfl, hw4, hb4⟩
      have hbw : Below w.heap.size w w4 := (hb.alloc hbs2 _).trans (hb4.mono hbs)
      clear hb4 hb c0 c1 hwr
      go_wp2
      go_roundw
      case rel => exact ⟨k + 1, _, by omega, by go_num, hw4, Lib.hid (by rw [Hq.out, Hm.out]), hbw⟩
      case measure => simp [intOf]; omega
    · have e : l.take k = l := List.take_of_length_le (by omega)
      rw [e] at Hm
      clear e
      have hml : m.length = O.raw l := by rw [Hm.out, O.encRaw_length]
      have Hml := Lib.hid hml
      go_wp2_with fail
      refine (Done_any B B m wr hwr (by omega)).mono ?_
      rintro e w4 ⟨rfl, rfl⟩
      have hp := O.pad_le (O.raw l)
      have Hsd : Hid ((⟨m.toArray⟩ : ByteArray).data.toList = m) := Lib.hid rfl
      have Hss := Lib.hid (show (⟨m.toArray⟩ : ByteArray).size = O.raw l from hml)
      generalize (⟨m.toArray⟩ : ByteArray) = s at *
      have hss : s.size ≤ 40 := by rw [Hss.out]; exact hraw
      clear hml
      have hdiff : (z : Int) - (s.size : Int) = ((O.pad (O.raw l) : Nat) : Int) := by rw [Hss.out, Hsz.out]; omega
      generalize O.pad (O.raw l) = p at *
      go_wp2_with fail
      refine (Tryd.strings_Repeat ⟨#[0]⟩ p _ (by omega) (by show 1 * p ≤ _; omega)).mono ?_
      rintro e w5 ⟨rfl, hb5⟩
      have hq : (⟨(Lib.repeatL (⟨#[0]⟩ : ByteArray).data.toList p).toArray⟩ : ByteArray).data.toList = List.replicate p 0 := repeat_zero p
      have hqs : (⟨(Lib.repeatL (⟨#[0]⟩ : ByteArray).data.toList p).toArray⟩ : ByteArray).size = p := by
        show (Lib.repeatL (⟨#[0]⟩ : ByteArray).data.toList p).length = p
        rw [show (⟨#[0]⟩ : ByteArray).data.toList = [(0 : UInt8)] from rfl, repeat_zero]; simp
      have Hq := Lib.hid hq
      clear hq
      generalize (⟨(Lib.repeatL (⟨#[0]⟩ : ByteArray).data.toList p).toArray⟩ : ByteArray) = q at *
      have hqs' : q.size ≤ 3 := by omega
      have hbw : Below w.heap.size w w5 := hb.trans (hb5.mono hbs2)
      clear hdiff hqs
      go_wp2
      go_ret2
      refine ⟨?_, hbw⟩
      have e : s ++ q = r := by
        rw [← Ht.out]
        exact bytes_ext (by rw [ByteArray.data_append, Array.toList_append, Hsd.out, Hq.out, Hm.out, Hen.out])
      rw [e]
      rfl

theorem optEnc_any (a : Option Addr) (cap : Nat) (l : List Opt) (w : World) (h : OptRow w a l) (hl : l.length ≤ 60) (hd : ∀ o ∈ l, o.data.size ≤ 100) :
    Calls Tryd.prog 14 #[.slice a l.length cap] w fun e w' => e = .returned (.tuple #[.string (O.encoded l).1, .int .i64 (O.encoded l).2]) ∧ Below w.heap.size w w' := by
  cases hr : l.all O.right with
  | false => rw [O.encoded_bad l hr]; exact optEnc_bad a cap l w h hl hd hr
  | true =>
    by_cases hs : 40 < O.size l
    · rw [O.encoded_long l hr hs]; exact optEnc_long a cap l w h hl hd hr hs
    · rw [O.encoded_ok l hr hs]; exact optEnc_ok a cap l w h hl hd hr hs
#print axioms optEnc_any
end Go.Proofs.YtncnildpbccpaaaDoor
