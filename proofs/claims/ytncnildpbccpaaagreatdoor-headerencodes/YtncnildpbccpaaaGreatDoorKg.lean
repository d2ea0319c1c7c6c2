/- The walk of options' bytes. -/
import Derived.Test.YtncnildpbccpaaaGreatDoorKf
import Derived.Test.YtncnildpbccpaaaGreatDoorKe
import Derived.Test.YtncnildpbccpaaaGreatDoorKb
import Derived.Test.YtncnildpbccpaaaGreatDoorKc
import Derived.BigQuiet
import Derived.Deep.QuietTactic
import Derived.Deep.RegionHeld3
set_option maxRecDepth 100000
namespace Go.Proofs.YtncnildpbccpaaaGreatDoor
open Go.RowKit

namespace O
/-- Options' bytes, and the error. -/
def encoded (l : List Opt) : ByteArray × Int := if l.all right then (if 40 < size l then (⟨#[]⟩, 5) else (⟨(enc l).toArray⟩, 0)) else (⟨#[]⟩, 1)
theorem encoded_bad (l : List Opt) (h : l.all right = false) : encoded l = (⟨#[]⟩, 1) := by unfold encoded; rw [h]; rfl
theorem encoded_long (l : List Opt) (h : l.all right = true) (hs : 40 < size l) : encoded l = (⟨#[]⟩, 5) := by unfold encoded; rw [h, if_pos rfl, if_pos hs]
theorem encoded_ok (l : List Opt) (h : l.all right = true) (hs : ¬ 40 < size l) : encoded l = (⟨(enc l).toArray⟩, 0) := by unfold encoded; rw [h, if_pos rfl, if_neg hs]
end O

theorem repeat_zero (p : Nat) : Lib.repeatL [(0 : UInt8)] p = List.replicate p 0 := by
  induction p with
  | zero => rfl
  | succ n ih => simp [Lib.repeatL, List.replicate_succ, ← ih]

set_option maxHeartbeats 1000000 in
theorem optEnc_bad (a : Option Addr) (cap : Nat) (l : List Opt) (w : World) (h : OptRow w a l) (hl : l.length ≤ 60) (hd : ∀ o ∈ l, o.data.size ≤ 100) (hr : l.all O.right = false) :
    Calls Tryz.prog 14 #[.slice a l.length cap] w fun e w' => e = .returned (.tuple #[.string ⟨#[]⟩, .int .i64 1]) ∧ Below w.heap.size w w' := by
  have Hr := Lib.hid hr
  have H1 := Lib.hid (optRight_any a cap l w h (by unfold maxLen; omega) (fun o ho => by have := hd o ho; unfold maxLen; omega))
  clear hr h hd
  go_enter Tryz.func14, Tryz.ntmps14
  go_wp2_with fail
  refine H1.out.mono ?_
  rintro e w1 ⟨rfl, hb1⟩
  rw [Hr.out]
  go_wp2
  go_ret2
  exact ⟨rfl, hb1⟩

set_option maxHeartbeats 1000000 in
theorem optEnc_long (a : Option Addr) (cap : Nat) (l : List Opt) (w : World) (h : OptRow w a l) (hl : l.length ≤ 60) (hd : ∀ o ∈ l, o.data.size ≤ 100) (hr : l.all O.right = true) (hs : 40 < O.size l) :
    Calls Tryz.prog 14 #[.slice a l.length cap] w fun e w' => e = .returned (.tuple #[.string ⟨#[]⟩, .int .i64 5]) ∧ Below w.heap.size w w' := by
  have Hr := Lib.hid hr
  have Hrow := Lib.hid h
  have Hd := Lib.hid hd
  have H1 := Lib.hid (optRight_any a cap l w h (by unfold maxLen; omega) (fun o ho => by have := hd o ho; unfold maxLen; omega))
  clear hr h hd
  go_enter Tryz.func14, Tryz.ntmps14
  go_wp2_with fail
  refine H1.out.mono ?_
  rintro e w1 ⟨rfl, hb1⟩
  rw [Hr.out]
  go_wp2_with fail
  refine (optSize_any a cap l w1 (Hrow.out.carry hb1) hl Hd.out).mono ?_
  rintro e w2 ⟨rfl, hb2⟩
  have hb : Below w.heap.size w w2 := hb1.trans (hb2.mono hb1.size)
  clear hb1 hb2 H1
  generalize O.size l = z at *
  go_wp2
  go_ret2
  exact ⟨rfl, hb⟩

set_option maxHeartbeats 2000000 in
theorem optEnc_ok (a : Option Addr) (cap : Nat) (l : List Opt) (w : World) (h : OptRow w a l) (hl : l.length ≤ 60) (hd : ∀ o ∈ l, o.data.size ≤ 100) (hr : l.all O.right = true) (hs : ¬ 40 < O.size l) :
    Calls Tryz.prog 14 #[.slice a l.length cap] w fun e w' => e = .returned (.tuple #[.string ⟨(O.enc l).toArray⟩, .int .i64 0]) ∧ Below w.heap.size w w' := by
  have Hr := Lib.hid hr
  have Hrow := Lib.hid h
  have Hd := Lib.hid hd
  have H1 := Lib.hid (optRight_any a cap l w h (by unfold maxLen; omega) (fun o ho => by have := hd o ho; unfold maxLen; omega))
  obtain ⟨r, hr'⟩ : ∃ r : ByteArray, (⟨(O.enc l).toArray⟩ : ByteArray) = r := ⟨_, rfl⟩
  have Ht := Lib.hid hr'
  rw [hr']
  clear hr h hd hr'
  go_enter Tryz.func14, Tryz.ntmps14
  go_wp2_with fail
  refine H1.out.mono ?_
  rintro e w1 ⟨rfl, hb1⟩
  rw [Hr.out]
  go_wp2_with fail
  refine (optSize_any a cap l w1 (Hrow.out.carry hb1) hl Hd.out).mono ?_
  rintro e w2 ⟨rfl, hb2⟩
  have hb : Below w.heap.size w w2 := hb1.trans (hb2.mono hb1.size)
  have hbs := hb.size
  clear hb1 hb2 H1
  have Hsz := Lib.hid (show O.size l = O.raw l + O.pad (O.raw l) from rfl)
  have Hen := Lib.hid (show O.enc l = O.encRaw l ++ List.replicate (O.pad (O.raw l)) 0 from rfl)
  have hraw : O.raw l ≤ 40 := by have := Hsz.out; omega
  generalize O.size l = z at *
  go_wp2
  have hw0 := Wr.new w2
  generalize hB : w2.heap.size = B at *
  have hb0 : Below w.heap.size w (w2.alloc (.cells #[.bool false, .slice none 0 0] 42)) := hb.alloc (by omega) _
  clear hB hb
  generalize (w2.alloc (.cells #[.bool false, .slice none 0 0] 42)) = w3 at *
  go_loopw [21] (fun i wr => ∃ (k : Nat) (m : List UInt8), k ≤ l.length ∧ i = .int .i64 k ∧ Wr B B m wr ∧ Hid (m = O.encRaw (l.take k)) ∧ Below w.heap.size w wr) (fun i _ => l.length - (intOf i).toNat)
  case atStart => exact ⟨0, [], Nat.zero_le _, rfl, hw0, Lib.hid rfl, hb0⟩
  case round =>
    obtain ⟨k, m, hk, rfl, hwr, Hm, hb⟩ := hrel
    have hbs2 := hb.size
    by_cases hlt : k < l.length
    · obtain ⟨b, off, rfl, hbl, c0, c1⟩ := Hrow.out.then hb k hlt
      have Hq := Lib.hid (encRaw_take l k hlt)
      have hro := List.all_eq_true.1 Hr.out _ (getD_mem l k hlt)
      have hml : m.length ≤ 9000 := by rw [Hm.out, O.encRaw_length]; have := raw_take_le l k (by omega) Hd.out; omega
      generalize l.getD k noOpt = o at *
      obtain ⟨kd, d⟩ := o
      simp only at c0 c1
      have Hro := Lib.hid hro
      clear hro
      go_wp2_with fail
      refine (write_any B B m ⟨kd, d⟩ _ (hwr.alloc _) hml Hro.out).mono ?_
      rintro e w4 ⟨rfl, hw4, hb4⟩
      have hbw : Below w.heap.size w w4 := (hb.alloc hbs2 _).trans (hb4.mono hbs)
      clear hb4 hb c0 c1 hwr
      go_wp2
      go_roundw
      case rel => exact ⟨k + 1, _, by omega, by go_num, hw4, Lib.hid (by rw [Hq.out, Hm.out]), hbw⟩
      case measure => simp [intOf]; omega
    · have e : l.take k = l := List.take_of_length_le (by omega)
      rw [e] at Hm
      clear e
      have hml : m.length = O.raw l := by rw [Hm.out, O.encRaw_length]
      have Hml := Lib.hid hml
      go_wp2_with fail
      refine (Done_any B B m wr hwr (by omega)).mono ?_
      rintro e w4 ⟨rfl, rfl⟩
      have hp := O.pad_le (O.raw l)
      have Hsd : Hid ((⟨m.toArray⟩ : ByteArray).data.toList = m) := Lib.hid rfl
      have Hss := Lib.hid (show (⟨m.toArray⟩ : ByteArray).size = O.raw l from hml)
      generalize (⟨m.toArray⟩ : ByteArray) = s at *
      have hss : s.size ≤ 40 := by rw [Hss.out]; exact hraw
      clear hml
      have hdiff : (z : Int) - (s.size : Int) = ((O.pad (O.raw l) : Nat) : Int) := by rw [Hss.out, Hsz.out]; omega
      generalize O.pad (O.raw l) = p at *
      go_wp2_with fail
      refine (Tryz.strings_Repeat ⟨#[0]⟩ p _ (by omega) (by show 1 * p ≤ _; omega)).mono ?_
      rintro e w5 ⟨rfl, hb5⟩
      have hq : (⟨(Lib.repeatL (⟨#[0]⟩ : ByteArray).data.toList p).toArray⟩ : ByteArray).data.toList = List.replicate p 0 := repeat_zero p
      have hqs : (⟨(Lib.repeatL (⟨#[0]⟩ : ByteArray).data.toList p).toArray⟩ : ByteArray).size = p := by
        show (Lib.repeatL (⟨#[0]⟩ : ByteArray).data.toList p).length = p
        rw [show (⟨#[0]⟩ : ByteArray).data.toList = [(0 : UInt8)] from rfl, repeat_zero]; simp
      have Hq := Lib.hid hq
      clear hq
      generalize (⟨(Lib.repeatL (⟨#[0]⟩ : ByteArray).data.toList p).toArray⟩ : ByteArray) = q at *
      have hqs' : q.size ≤ 3 := by omega
      have hbw : Below w.heap.size w w5 := hb.trans (hb5.mono hbs2)
      clear hdiff hqs
      go_wp2
      go_ret2
      refine ⟨?_, hbw⟩
      have e : s ++ q = r := by
        rw [← Ht.out]
        exact bytes_ext (by rw [ByteArray.data_append, Array.toList_append, Hsd.out, Hq.out, Hm.out, Hen.out])
      rw [e]
      rfl

theorem optEnc_any (a : Option Addr) (cap : Nat) (l : List Opt) (w : World) (h : OptRow w a l) (hl : l.length ≤ 60) (hd : ∀ o ∈ l, o.data.size ≤ 100) :
    Calls Tryz.prog 14 #[.slice a l.length cap] w fun e w' => e = .returned (.tuple #[.string (O.encoded l).1, .int .i64 (O.encoded l).2]) ∧ Below w.heap.size w w' := by
  cases hr : l.all O.right with
  | false => rw [O.encoded_bad l hr]; exact optEnc_bad a cap l w h hl hd hr
  | true =>
    by_cases hs : 40 < O.size l
    · rw [O.encoded_long l hr hs]; exact optEnc_long a cap l w h hl hd hr hs
    · rw [O.encoded_ok l hr hs]; exact optEnc_ok a cap l w h hl hd hr hs
#print axioms optEnc_any
end Go.Proofs.YtncnildpbccpaaaGreatDoor

namespace Go.Proofs.YtncnildpbccpaaaGreatDoor
open Go.RowKit
set_option linter.unusedVariables false

/-- Are a packet's numbers within their bounds, z being its size and t where its Data ends? -/
def H.within (tos ttl proto id off z t : Int) : Prop :=
  (0 ≤ tos ∧ tos ≤ 255) ∧ (0 ≤ ttl ∧ ttl ≤ 255) ∧ (0 ≤ proto ∧ proto ≤ 255) ∧ (0 ≤ id ∧ id ≤ 65535) ∧ (0 ≤ off ∧ off ≤ 65528) ∧ (0 ≤ z ∧ z ≤ 65535) ∧ (0 ≤ t ∧ t ≤ 65535)
instance (tos ttl proto id off z t : Int) : Decidable (H.within tos ttl proto id off z t) := by unfold H.within; exact inferInstance

abbrev boxO : Obj := .cells #[.int .i64 0, .int .i64 0, .int .i64 0, .int .i64 0, .int .i64 0, .int .i64 0, .int .i64 0, .int .i64 0, .int .i64 0, .int .i64 0, .int .i64 0, .int .i64 0, .int .i64 0, .int .i64 0] 75

/-- A packet's block, and its options. -/
structure PkAt (N : Nat) (X : Obj) (a : Option Addr) (l : List Opt) (x : World) : Prop where
  blk : x.heap[N]? = some X
  row : OptRow x a l
theorem PkAt.carry {N : Nat} {X : Obj} {a : Option Addr} {l : List Opt} {x y : World} (h : PkAt N X a l x) (hb : Below x.heap.size x y) : PkAt N X a l y :=
  ⟨(hb.block N (lt_of_block h.blk)).trans h.blk, h.row.carry hb⟩

theorem bpick0 (w : World) (a0 b0 a1 b1 a2 b2 a3 b3 a4 b4 a5 b5 a6 b6 : Value) : (Instr.index 75 (.agg #[a0, b0, a1, b1, a2, b2, a3, b3, a4, b4, a5, b5, a6, b6]) (.int .i64 0)).run Tryz.prog w = .ok (.agg #[a0, b0]) w := by kernel_rfl
theorem bpick1 (w : World) (a0 b0 a1 b1 a2 b2 a3 b3 a4 b4 a5 b5 a6 b6 : Value) : (Instr.index 75 (.agg #[a0, b0, a1, b1, a2, b2, a3, b3, a4, b4, a5, b5, a6, b6]) (.int .i64 1)).run Tryz.prog w = .ok (.agg #[a1, b1]) w := by kernel_rfl
theorem bpick2 (w : World) (a0 b0 a1 b1 a2 b2 a3 b3 a4 b4 a5 b5 a6 b6 : Value) : (Instr.index 75 (.agg #[a0, b0, a1, b1, a2, b2, a3, b3, a4, b4, a5, b5, a6, b6]) (.int .i64 2)).run Tryz.prog w = .ok (.agg #[a2, b2]) w := by kernel_rfl
theorem bpick3 (w : World) (a0 b0 a1 b1 a2 b2 a3 b3 a4 b4 a5 b5 a6 b6 : Value) : (Instr.index 75 (.agg #[a0, b0, a1, b1, a2, b2, a3, b3, a4, b4, a5, b5, a6, b6]) (.int .i64 3)).run Tryz.prog w = .ok (.agg #[a3, b3]) w := by kernel_rfl
theorem bpick4 (w : World) (a0 b0 a1 b1 a2 b2 a3 b3 a4 b4 a5 b5 a6 b6 : Value) : (Instr.index 75 (.agg #[a0, b0, a1, b1, a2, b2, a3, b3, a4, b4, a5, b5, a6, b6]) (.int .i64 4)).run Tryz.prog w = .ok (.agg #[a4, b4]) w := by kernel_rfl
theorem bpick5 (w : World) (a0 b0 a1 b1 a2 b2 a3 b3 a4 b4 a5 b5 a6 b6 : Value) : (Instr.index 75 (.agg #[a0, b0, a1, b1, a2, b2, a3, b3, a4, b4, a5, b5, a6, b6]) (.int .i64 5)).run Tryz.prog w = .ok (.agg #[a5, b5]) w := by kernel_rfl
theorem bpick6 (w : World) (a0 b0 a1 b1 a2 b2 a3 b3 a4 b4 a5 b5 a6 b6 : Value) : (Instr.index 75 (.agg #[a0, b0, a1, b1, a2, b2, a3, b3, a4, b4, a5, b5, a6, b6]) (.int .i64 6)).run Tryz.prog w = .ok (.agg #[a6, b6]) w := by kernel_rfl

theorem bel_trans (x y z : World) (h1 : Below x.heap.size x y) (h2 : Below y.heap.size y z) : Below x.heap.size x z := h1.trans (h2.mono h1.size)

set_option maxHeartbeats 4000000 in
theorem inBounds_go (tos id : Int) (df mf : Bool) (off ttl proto src dst : Int) (a : Option Addr) (cap : Nat) (l : List Opt) (d : ByteArray) (w : World) (h : OptRow w a l) (hl : l.length ≤ 60) (hd : ∀ o ∈ l, o.data.size ≤ 100) (hds : d.size ≤ 70000)
    (z t : Int) (hz : z = ((20 + O.size l + d.size : Nat) : Int)) (ht : IntKind.i64.wrap (off + (d.size : Int)) = t) (b : Bool) (hin : b = decide (H.within tos ttl proto id off z t)) :
    Calls Tryz.prog 25 #[pk tos id df mf off ttl proto src dst (.slice a l.length cap) d] w fun e w' => e = .returned (.bool b) ∧ Below w.heap.size w w' := by
  have hp0 : PkAt w.heap.size (pkO tos id df mf off ttl proto src dst (.slice a l.length cap) d) a l (w.alloc (pkO tos id df mf off ttl proto src dst (.slice a l.length cap) d)) :=
    ⟨heap_alloc_new w _, h.carry ((Below.refl _ w).alloc (Nat.le_refl _) _)⟩
  have Hz : Hid (∀ w', PkAt w.heap.size (pkO tos id df mf off ttl proto src dst (.slice a l.length cap) d) a l w' → Calls Tryz.prog 11 #[pk tos id df mf off ttl proto src dst (.slice a l.length cap) d] w' fun e w'' => e = .returned (.int .i64 z) ∧ Below w'.heap.size w' w'') :=
    Lib.hid fun w' hw' => by rw [hz]; exact hsize_any tos id df mf off ttl proto src dst a cap l d w' hw'.row hl hd hds
  have Hc : Hid (∀ w', PkAt w.heap.size (pkO tos id df mf off ttl proto src dst (.slice a l.length cap) d) a l w' → w'.cell? ⟨w.heap.size, 0, none⟩ = some (.int .i64 tos) ∧ w'.cell? ⟨w.heap.size, 1, none⟩ = some (.int .i64 id) ∧ w'.cell? ⟨w.heap.size, 2, none⟩ = some (.bool df) ∧ w'.cell? ⟨w.heap.size, 3, none⟩ = some (.bool mf) ∧ w'.cell? ⟨w.heap.size, 4, none⟩ = some (.int .i64 off) ∧ w'.cell? ⟨w.heap.size, 5, none⟩ = some (.int .i64 ttl) ∧ w'.cell? ⟨w.heap.size, 6, none⟩ = some (.int .i64 proto) ∧ w'.cell? ⟨w.heap.size, 7, none⟩ = some (.int .u32 src) ∧ w'.cell? ⟨w.heap.size, 8, none⟩ = some (.int .u32 dst) ∧ w'.cell? ⟨w.heap.size, 9, none⟩ = some (.slice a l.length cap) ∧ w'.cell? ⟨w.heap.size, 10, none⟩ = some (.string d)) :=
    Lib.hid fun w' hw' => by
      have := hw'.blk
      simp [World.cell?, this]
  have Hin := Lib.hid hin
  clear hin
  have hb0 : Below w.heap.size w (w.alloc (pkO tos id df mf off ttl proto src dst (.slice a l.length cap) d)) := (Below.refl _ w).alloc (Nat.le_refl _) _
  clear h hz hd hl hds
  go_enter Tryz.func25, Tryz.ntmps25
  go_upto_region 1 with fail
  generalize hN : w.heap.size = N at *
  generalize hw0 : (w.alloc (pkO tos id df mf off ttl proto src dst (.slice a l.length cap) d)) = w0 at *
  clear hw0
  refine region_float (C := PkAt N (pkO tos id df mf off ttl proto src dst (.slice a l.length cap) d) a l) (R := fun x y => Below x.heap.size x y)
    (A := { tmps := #[pk tos id df mf off ttl proto src dst (.slice a l.length cap) d, .pointer (some ⟨N, 0, none⟩), .bool false, undef, undef, undef, .pointer (some ⟨N, 0, none⟩), .int .i64 tos, .agg #[.int .i64 tos, .int .i64 255], .pointer (some ⟨N, 5, none⟩), .int .i64 ttl, .agg #[.int .i64 ttl, .int .i64 255], .pointer (some ⟨N, 6, none⟩), .int .i64 proto, .agg #[.int .i64 proto, .int .i64 255], .pointer (some ⟨N, 1, none⟩), .int .i64 id, .agg #[.int .i64 id, .int .i64 65535], .pointer (some ⟨N, 4, none⟩), .int .i64 off, .agg #[.int .i64 off, .int .i64 65528], pk tos id df mf off ttl proto src dst (.slice a l.length cap) d, .int .i64 z, .agg #[.int .i64 z, .int .i64 65535], .pointer (some ⟨N, 4, none⟩), .int .i64 off, .pointer (some ⟨N, 10, none⟩), .string d, .int .i64 (d.size : Int), .int .i64 t, .agg #[.int .i64 t, .int .i64 65535], .agg #[.int .i64 tos, .int .i64 255, .int .i64 ttl, .int .i64 255, .int .i64 proto, .int .i64 255, .int .i64 id, .int .i64 65535, .int .i64 off, .int .i64 65528, .int .i64 z, .int .i64 65535, .int .i64 t, .int .i64 65535], undef, undef, undef, undef, undef, undef, undef, undef, undef], defers := [] })
    26 3 { dst := some 3, op := Op.alloc 75, type := 0, pos := "header.go:49", after := #[], guard := none } boxO (by kernel_rfl) rfl rfl (by kernel_rfl) (fun x => Below.refl _ x) bel_trans (fun x y hx hr => hx.carry hr) (fun x hx => hx.carry ((Below.refl _ x).alloc (Nat.le_refl _) _)) (hp0.carry ((Below.refl _ _).drew)) (by intro a w; go_simp) ?_ ?_
  · simp only [List.take_succ_cons, List.take_zero]
    refine ⟨.pointer (some ⟨N, 0, none⟩), .inl ⟨by rfl, fun w' hw' => ?_⟩, ?_⟩
    · obtain ⟨k0, k1, k2, k3, k4, k5, k6, k7, k8, k9, k10⟩ := Hc.out w' hw'
      go_simp
    simp only [Act.put, List.setIfInBounds_toArray, List.set_cons_zero, List.set_cons_succ]
    refine ⟨.int .i64 tos, .inl ⟨by rfl, fun w' hw' => ?_⟩, ?_⟩
    · obtain ⟨k0, k1, k2, k3, k4, k5, k6, k7, k8, k9, k10⟩ := Hc.out w' hw'
      go_simp
    simp only [Act.put, List.setIfInBounds_toArray, List.set_cons_zero, List.set_cons_succ]
    refine ⟨.agg #[.int .i64 tos, .int .i64 255], .inl ⟨by rfl, fun w' hw' => ?_⟩, ?_⟩
    · obtain ⟨k0, k1, k2, k3, k4, k5, k6, k7, k8, k9, k10⟩ := Hc.out w' hw'
      go_simp
    simp only [Act.put, List.setIfInBounds_toArray, List.set_cons_zero, List.set_cons_succ]
    refine ⟨.pointer (some ⟨N, 5, none⟩), .inl ⟨by rfl, fun w' hw' => ?_⟩, ?_⟩
    · obtain ⟨k0, k1, k2, k3, k4, k5, k6, k7, k8, k9, k10⟩ := Hc.out w' hw'
      go_simp
    simp only [Act.put, List.setIfInBounds_toArray, List.set_cons_zero, List.set_cons_succ]
    refine ⟨.int .i64 ttl, .inl ⟨by rfl, fun w' hw' => ?_⟩, ?_⟩
    · obtain ⟨k0, k1, k2, k3, k4, k5, k6, k7, k8, k9, k10⟩ := Hc.out w' hw'
      go_simp
    simp only [Act.put, List.setIfInBounds_toArray, List.set_cons_zero, List.set_cons_succ]
    refine ⟨.agg #[.int .i64 ttl, .int .i64 255], .inl ⟨by rfl, fun w' hw' => ?_⟩, ?_⟩
    · obtain ⟨k0, k1, k2, k3, k4, k5, k6, k7, k8, k9, k10⟩ := Hc.out w' hw'
      go_simp
    simp only [Act.put, List.setIfInBounds_toArray, List.set_cons_zero, List.set_cons_succ]
    refine ⟨.pointer (some ⟨N, 6, none⟩), .inl ⟨by rfl, fun w' hw' => ?_⟩, ?_⟩
    · obtain ⟨k0, k1, k2, k3, k4, k5, k6, k7, k8, k9, k10⟩ := Hc.out w' hw'
      go_simp
    simp only [Act.put, List.setIfInBounds_toArray, List.set_cons_zero, List.set_cons_succ]
    refine ⟨.int .i64 proto, .inl ⟨by rfl, fun w' hw' => ?_⟩, ?_⟩
    · obtain ⟨k0, k1, k2, k3, k4, k5, k6, k7, k8, k9, k10⟩ := Hc.out w' hw'
      go_simp
    simp only [Act.put, List.setIfInBounds_toArray, List.set_cons_zero, List.set_cons_succ]
    refine ⟨.agg #[.int .i64 proto, .int .i64 255], .inl ⟨by rfl, fun w' hw' => ?_⟩, ?_⟩
    · obtain ⟨k0, k1, k2, k3, k4, k5, k6, k7, k8, k9, k10⟩ := Hc.out w' hw'
      go_simp
    simp only [Act.put, List.setIfInBounds_toArray, List.set_cons_zero, List.set_cons_succ]
    refine ⟨.pointer (some ⟨N, 1, none⟩), .inl ⟨by rfl, fun w' hw' => ?_⟩, ?_⟩
    · obtain ⟨k0, k1, k2, k3, k4, k5, k6, k7, k8, k9, k10⟩ := Hc.out w' hw'
      go_simp
    simp only [Act.put, List.setIfInBounds_toArray, List.set_cons_zero, List.set_cons_succ]
    refine ⟨.int .i64 id, .inl ⟨by rfl, fun w' hw' => ?_⟩, ?_⟩
    · obtain ⟨k0, k1, k2, k3, k4, k5, k6, k7, k8, k9, k10⟩ := Hc.out w' hw'
      go_simp
    simp only [Act.put, List.setIfInBounds_toArray, List.set_cons_zero, List.set_cons_succ]
    refine ⟨.agg #[.int .i64 id, .int .i64 65535], .inl ⟨by rfl, fun w' hw' => ?_⟩, ?_⟩
    · obtain ⟨k0, k1, k2, k3, k4, k5, k6, k7, k8, k9, k10⟩ := Hc.out w' hw'
      go_simp
    simp only [Act.put, List.setIfInBounds_toArray, List.set_cons_zero, List.set_cons_succ]
    refine ⟨.pointer (some ⟨N, 4, none⟩), .inl ⟨by rfl, fun w' hw' => ?_⟩, ?_⟩
    · obtain ⟨k0, k1, k2, k3, k4, k5, k6, k7, k8, k9, k10⟩ := Hc.out w' hw'
      go_simp
    simp only [Act.put, List.setIfInBounds_toArray, List.set_cons_zero, List.set_cons_succ]
    refine ⟨.int .i64 off, .inl ⟨by rfl, fun w' hw' => ?_⟩, ?_⟩
    · obtain ⟨k0, k1, k2, k3, k4, k5, k6, k7, k8, k9, k10⟩ := Hc.out w' hw'
      go_simp
    simp only [Act.put, List.setIfInBounds_toArray, List.set_cons_zero, List.set_cons_succ]
    refine ⟨.agg #[.int .i64 off, .int .i64 65528], .inl ⟨by rfl, fun w' hw' => ?_⟩, ?_⟩
    · obtain ⟨k0, k1, k2, k3, k4, k5, k6, k7, k8, k9, k10⟩ := Hc.out w' hw'
      go_simp
    simp only [Act.put, List.setIfInBounds_toArray, List.set_cons_zero, List.set_cons_succ]
    refine ⟨pk tos id df mf off ttl proto src dst (.slice a l.length cap) d, .inl ⟨by rfl, fun w' hw' => ?_⟩, ?_⟩
    · obtain ⟨k0, k1, k2, k3, k4, k5, k6, k7, k8, k9, k10⟩ := Hc.out w' hw'
      go_simp
    simp only [Act.put, List.setIfInBounds_toArray, List.set_cons_zero, List.set_cons_succ]
    refine ⟨.int .i64 z, .inl ⟨by rfl, fun w' hw' => ?_⟩, ?_⟩
    · go_simp
      exact Hz.out w' hw'
    simp only [Act.put, List.setIfInBounds_toArray, List.set_cons_zero, List.set_cons_succ]
    refine ⟨.agg #[.int .i64 z, .int .i64 65535], .inl ⟨by rfl, fun w' hw' => ?_⟩, ?_⟩
    · obtain ⟨k0, k1, k2, k3, k4, k5, k6, k7, k8, k9, k10⟩ := Hc.out w' hw'
      go_simp
    simp only [Act.put, List.setIfInBounds_toArray, List.set_cons_zero, List.set_cons_succ]
    refine ⟨.pointer (some ⟨N, 4, none⟩), .inl ⟨by rfl, fun w' hw' => ?_⟩, ?_⟩
    · obtain ⟨k0, k1, k2, k3, k4, k5, k6, k7, k8, k9, k10⟩ := Hc.out w' hw'
      go_simp
    simp only [Act.put, List.setIfInBounds_toArray, List.set_cons_zero, List.set_cons_succ]
    refine ⟨.int .i64 off, .inl ⟨by rfl, fun w' hw' => ?_⟩, ?_⟩
    · obtain ⟨k0, k1, k2, k3, k4, k5, k6, k7, k8, k9, k10⟩ := Hc.out w' hw'
      go_simp
    simp only [Act.put, List.setIfInBounds_toArray, List.set_cons_zero, List.set_cons_succ]
    refine ⟨.pointer (some ⟨N, 10, none⟩), .inl ⟨by rfl, fun w' hw' => ?_⟩, ?_⟩
    · obtain ⟨k0, k1, k2, k3, k4, k5, k6, k7, k8, k9, k10⟩ := Hc.out w' hw'
      go_simp
    simp only [Act.put, List.setIfInBounds_toArray, List.set_cons_zero, List.set_cons_succ]
    refine ⟨.string d, .inl ⟨by rfl, fun w' hw' => ?_⟩, ?_⟩
    · obtain ⟨k0, k1, k2, k3, k4, k5, k6, k7, k8, k9, k10⟩ := Hc.out w' hw'
      go_simp
    simp only [Act.put, List.setIfInBounds_toArray, List.set_cons_zero, List.set_cons_succ]
    refine ⟨.int .i64 (d.size : Int), .inl ⟨by rfl, fun w' hw' => ?_⟩, ?_⟩
    · obtain ⟨k0, k1, k2, k3, k4, k5, k6, k7, k8, k9, k10⟩ := Hc.out w' hw'
      go_simp
    simp only [Act.put, List.setIfInBounds_toArray, List.set_cons_zero, List.set_cons_succ]
    refine ⟨.int .i64 t, .inl ⟨by rfl, fun w' hw' => ?_⟩, ?_⟩
    · obtain ⟨k0, k1, k2, k3, k4, k5, k6, k7, k8, k9, k10⟩ := Hc.out w' hw'
      go_simp
    simp only [Act.put, List.setIfInBounds_toArray, List.set_cons_zero, List.set_cons_succ]
    refine ⟨.agg #[.int .i64 t, .int .i64 65535], .inl ⟨by rfl, fun w' hw' => ?_⟩, ?_⟩
    · obtain ⟨k0, k1, k2, k3, k4, k5, k6, k7, k8, k9, k10⟩ := Hc.out w' hw'
      go_simp
    simp only [Act.put, List.setIfInBounds_toArray, List.set_cons_zero, List.set_cons_succ]
    refine ⟨.agg #[.int .i64 tos, .int .i64 255, .int .i64 ttl, .int .i64 255, .int .i64 proto, .int .i64 255, .int .i64 id, .int .i64 65535, .int .i64 off, .int .i64 65528, .int .i64 z, .int .i64 65535, .int .i64 t, .int .i64 65535], .inl ⟨by rfl, fun w' hw' => ?_⟩, ?_⟩
    · obtain ⟨k0, k1, k2, k3, k4, k5, k6, k7, k8, k9, k10⟩ := Hc.out w' hw'
      go_simp
    simp only [Act.put, List.setIfInBounds_toArray, List.set_cons_zero, List.set_cons_succ]
    rfl
  intro w1 w2 hc1 hr1 hc2 hr2
  simp only [List.drop_succ_cons, List.drop_zero, Act.put, List.setIfInBounds_toArray, List.set_cons_zero, List.set_cons_succ]
  have hcB : w2.heap[w1.heap.size]? = some boxO := (hr2.block w1.heap.size (by simp)).trans (heap_alloc_new w1 _)
  have hlt2 : w1.heap.size < w2.heap.size := lt_of_block hcB
  have hN1 : N ≤ w1.heap.size := by rw [← hN]; exact Nat.le_trans hb0.size (by have := hr1.size; simpa using this)
  have hbw : Below N w w2 := by
    have h1 : Below N w w1 := hb0.trans (((Below.refl _ _).drew.trans hr1).mono (by have := hb0.size; rw [hN] at this; simpa using this))
    exact (h1.alloc hN1 _).trans (hr2.mono (by simp; omega))
  clear hc1 hr1 hc2 hr2 hp0 hb0 Hz Hc
  have hcells : ∀ i : Nat, w2.cell? ⟨w1.heap.size, i, none⟩ = (w1.alloc boxO).cell? ⟨w1.heap.size, i, none⟩ := fun i => World.cell?_of_block (hcB.trans (heap_alloc_new w1 boxO).symm)
  have hfzs : ∀ i : Nat, w2.frozen? ⟨w1.heap.size, i, none⟩ = (w1.alloc boxO).frozen? ⟨w1.heap.size, i, none⟩ := fun i => World.frozen?_of_block (hcB.trans (heap_alloc_new w1 boxO).symm)
  go_upto_region 3 with fail
  clear hcells hfzs hcB
  have hb3 : Below N w ((((((((((((((w2.setCell ⟨w1.heap.size, 0, none⟩ (.int .i64 tos)).setCell ⟨w1.heap.size, 1, none⟩ (.int .i64 255)).setCell ⟨w1.heap.size, 2, none⟩ (.int .i64 ttl)).setCell ⟨w1.heap.size, 3, none⟩ (.int .i64 255)).setCell ⟨w1.heap.size, 4, none⟩ (.int .i64 proto)).setCell ⟨w1.heap.size, 5, none⟩ (.int .i64 255)).setCell ⟨w1.heap.size, 6, none⟩ (.int .i64 id)).setCell ⟨w1.heap.size, 7, none⟩ (.int .i64 65535)).setCell ⟨w1.heap.size, 8, none⟩ (.int .i64 off)).setCell ⟨w1.heap.size, 9, none⟩ (.int .i64 65528)).setCell ⟨w1.heap.size, 10, none⟩ (.int .i64 z)).setCell ⟨w1.heap.size, 11, none⟩ (.int .i64 65535)).setCell ⟨w1.heap.size, 12, none⟩ (.int .i64 t)).setCell ⟨w1.heap.size, 13, none⟩ (.int .i64 65535)) := ((((((((((((((hbw.setCell hN1 (.int .i64 tos)).setCell hN1 (.int .i64 255)).setCell hN1 (.int .i64 ttl)).setCell hN1 (.int .i64 255)).setCell hN1 (.int .i64 proto)).setCell hN1 (.int .i64 255)).setCell hN1 (.int .i64 id)).setCell hN1 (.int .i64 65535)).setCell hN1 (.int .i64 off)).setCell hN1 (.int .i64 65528)).setCell hN1 (.int .i64 z)).setCell hN1 (.int .i64 65535)).setCell hN1 (.int .i64 t)).setCell hN1 (.int .i64 65535))
  generalize ((((((((((((((w2.setCell ⟨w1.heap.size, 0, none⟩ (.int .i64 tos)).setCell ⟨w1.heap.size, 1, none⟩ (.int .i64 255)).setCell ⟨w1.heap.size, 2, none⟩ (.int .i64 ttl)).setCell ⟨w1.heap.size, 3, none⟩ (.int .i64 255)).setCell ⟨w1.heap.size, 4, none⟩ (.int .i64 proto)).setCell ⟨w1.heap.size, 5, none⟩ (.int .i64 255)).setCell ⟨w1.heap.size, 6, none⟩ (.int .i64 id)).setCell ⟨w1.heap.size, 7, none⟩ (.int .i64 65535)).setCell ⟨w1.heap.size, 8, none⟩ (.int .i64 off)).setCell ⟨w1.heap.size, 9, none⟩ (.int .i64 65528)).setCell ⟨w1.heap.size, 10, none⟩ (.int .i64 z)).setCell ⟨w1.heap.size, 11, none⟩ (.int .i64 65535)).setCell ⟨w1.heap.size, 12, none⟩ (.int .i64 t)).setCell ⟨w1.heap.size, 13, none⟩ (.int .i64 65535)) = w3 at *
  have hNw : N ≤ w.heap.size := by omega
  clear hbw hlt2
  refine wp_loop_rounds 8 ?_
  rw [rounds_succ]
  have ip := bpick0
  go_upto_region 5 with fail
  clear ip
  have hbl0 : (w3.alloc (.cells #[.int .i64 tos, .int .i64 255] 74)).heap[w3.heap.size]? = some (.cells #[.int .i64 tos, .int .i64 255] 74 (0, 0)) := heap_alloc_new _ _
  have hu0 : Below N w (w3.alloc (.cells #[.int .i64 tos, .int .i64 255] 74)) := hb3.alloc (Nat.le_trans hNw hb3.size) _
  generalize (w3.alloc (.cells #[.int .i64 tos, .int .i64 255] 74)) = u0 at *
  generalize w3.heap.size = B0 at *
  clear hb3
  by_cases hx : ¬ (0 ≤ tos ∧ tos ≤ 255)
  · have hbf : b = false := by rw [Hin.out]; exact decide_eq_false (fun hh => hx hh.1)
    subst hbf
    have hn := H.near_out tos 255 (by decide) hx
    have hne : (H.near tos 255 == tos) = false := by simp [hn]
    clear hx hn Hin
    refine region_walk (fun y => y.heap[B0]? = some (.cells #[.int .i64 tos, .int .i64 255] 74 (0, 0))) (fun x y => Below x.heap.size x y) (by kernel_rfl) (by kernel_rfl) (by kernel_rfl) (fun x => Below.refl _ x) bel_trans (fun x y hx hr => (hr.block B0 (lt_of_block hx)).trans hx) hbl0 ?_
    apply Exists.intro
    refine ⟨?_, ?_⟩
    · refine ⟨.agg #[.int .i64 tos, .int .i64 255], .inl ⟨by rfl, fun y hy => ?_⟩, ?_⟩
      · have k0 : y.cell? ⟨B0, 0, none⟩ = some (.int .i64 tos) := by simp [World.cell?, hy]
        have k1 : y.cell? ⟨B0, 1, none⟩ = some (.int .i64 255) := by simp [World.cell?, hy]
        go_simp
      simp only [Act.put, List.setIfInBounds_toArray, List.set_cons_zero, List.set_cons_succ]
      refine ⟨.agg #[.int .i64 (H.near tos 255), .int .i64 255], .inl ⟨by rfl, fun y hy => ?_⟩, ?_⟩
      · go_simp
        exact nearest_any tos 255 y
      simp only [Act.put, List.setIfInBounds_toArray, List.set_cons_zero, List.set_cons_succ]
      refine ⟨.agg #[.int .i64 tos, .int .i64 255], .inl ⟨by rfl, fun y hy => ?_⟩, ?_⟩
      · have k0 : y.cell? ⟨B0, 0, none⟩ = some (.int .i64 tos) := by simp [World.cell?, hy]
        have k1 : y.cell? ⟨B0, 1, none⟩ = some (.int .i64 255) := by simp [World.cell?, hy]
        go_simp
      simp only [Act.put, List.setIfInBounds_toArray, List.set_cons_zero, List.set_cons_succ]
      refine ⟨.bool true, .inl ⟨by rfl, fun y hy => ?_⟩, ?_⟩
      · have k2 := guard_bound
        have k3 := neq_bound (H.near tos 255) 255 tos 255 y
        go_simp
      simp only [Act.put, List.setIfInBounds_toArray, List.set_cons_zero, List.set_cons_succ]
      rfl
    intro v0 _ hr0
    have hv0 : Below N w v0 := hu0.trans ((((Below.refl _ u0).drew).trans hr0).mono (Nat.le_trans hNw hu0.size))
    clear hr0 hbl0 hu0
    clear hne
    go_wp2
    go_ret
    exact ⟨rfl, by rw [hN]; exact hv0⟩
  have hx0 := Lib.hid (Classical.not_not.1 hx)
  have hn := H.near_in tos 255 hx0.out.1 hx0.out.2
  clear hx
  refine region_walk (fun y => y.heap[B0]? = some (.cells #[.int .i64 tos, .int .i64 255] 74 (0, 0))) (fun x y => Below x.heap.size x y) (by kernel_rfl) (by kernel_rfl) (by kernel_rfl) (fun x => Below.refl _ x) bel_trans (fun x y hx hr => (hr.block B0 (lt_of_block hx)).trans hx) hbl0 ?_
  apply Exists.intro
  refine ⟨?_, ?_⟩
  · refine ⟨.agg #[.int .i64 tos, .int .i64 255], .inl ⟨by rfl, fun y hy => ?_⟩, ?_⟩
    · have k0 : y.cell? ⟨B0, 0, none⟩ = some (.int .i64 tos) := by simp [World.cell?, hy]
      have k1 : y.cell? ⟨B0, 1, none⟩ = some (.int .i64 255) := by simp [World.cell?, hy]
      go_simp
    simp only [Act.put, List.setIfInBounds_toArray, List.set_cons_zero, List.set_cons_succ]
    refine ⟨.agg #[.int .i64 tos, .int .i64 255], .inl ⟨by rfl, fun y hy => ?_⟩, ?_⟩
    · go_simp
      have k4 := nearest_any tos 255 y
      rw [hn] at k4
      exact k4
    simp only [Act.put, List.setIfInBounds_toArray, List.set_cons_zero, List.set_cons_succ]
    refine ⟨.agg #[.int .i64 tos, .int .i64 255], .inl ⟨by rfl, fun y hy => ?_⟩, ?_⟩
    · have k0 : y.cell? ⟨B0, 0, none⟩ = some (.int .i64 tos) := by simp [World.cell?, hy]
      have k1 : y.cell? ⟨B0, 1, none⟩ = some (.int .i64 255) := by simp [World.cell?, hy]
      go_simp
    simp only [Act.put, List.setIfInBounds_toArray, List.set_cons_zero, List.set_cons_succ]
    refine ⟨.bool false, .inl ⟨by rfl, fun y hy => ?_⟩, ?_⟩
    · have k2 := guard_bound
      have k3 := neq_bound tos 255 tos 255 y
      go_simp
    simp only [Act.put, List.setIfInBounds_toArray, List.set_cons_zero, List.set_cons_succ]
    rfl
  intro v0 _ hr0
  have hv0 : Below N w v0 := hu0.trans ((((Below.refl _ u0).drew).trans hr0).mono (Nat.le_trans hNw hu0.size))
  clear hr0 hbl0 hu0
  clear hn
  go_wp2_with fail
  rw [rounds_succ]
  have ip := bpick1
  go_upto_region 5 with fail
  clear ip
  have hbl1 : (v0.alloc (.cells #[.int .i64 ttl, .int .i64 255] 74)).heap[v0.heap.size]? = some (.cells #[.int .i64 ttl, .int .i64 255] 74 (0, 0)) := heap_alloc_new _ _
  have hu1 : Below N w (v0.alloc (.cells #[.int .i64 ttl, .int .i64 255] 74)) := hv0.alloc (Nat.le_trans hNw hv0.size) _
  generalize (v0.alloc (.cells #[.int .i64 ttl, .int .i64 255] 74)) = u1 at *
  generalize v0.heap.size = B1 at *
  clear hv0
  by_cases hx : ¬ (0 ≤ ttl ∧ ttl ≤ 255)
  · have hbf : b = false := by rw [Hin.out]; exact decide_eq_false (fun hh => hx hh.2.1)
    subst hbf
    have hn := H.near_out ttl 255 (by decide) hx
    have hne : (H.near ttl 255 == ttl) = false := by simp [hn]
    clear hx hn Hin
    refine region_walk (fun y => y.heap[B1]? = some (.cells #[.int .i64 ttl, .int .i64 255] 74 (0, 0))) (fun x y => Below x.heap.size x y) (by kernel_rfl) (by kernel_rfl) (by kernel_rfl) (fun x => Below.refl _ x) bel_trans (fun x y hx hr => (hr.block B1 (lt_of_block hx)).trans hx) hbl1 ?_
    apply Exists.intro
    refine ⟨?_, ?_⟩
    · refine ⟨.agg #[.int .i64 ttl, .int .i64 255], .inl ⟨by rfl, fun y hy => ?_⟩, ?_⟩
      · have k0 : y.cell? ⟨B1, 0, none⟩ = some (.int .i64 ttl) := by simp [World.cell?, hy]
        have k1 : y.cell? ⟨B1, 1, none⟩ = some (.int .i64 255) := by simp [World.cell?, hy]
        go_simp
      simp only [Act.put, List.setIfInBounds_toArray, List.set_cons_zero, List.set_cons_succ]
      refine ⟨.agg #[.int .i64 (H.near ttl 255), .int .i64 255], .inl ⟨by rfl, fun y hy => ?_⟩, ?_⟩
      · go_simp
        exact nearest_any ttl 255 y
      simp only [Act.put, List.setIfInBounds_toArray, List.set_cons_zero, List.set_cons_succ]
      refine ⟨.agg #[.int .i64 ttl, .int .i64 255], .inl ⟨by rfl, fun y hy => ?_⟩, ?_⟩
      · have k0 : y.cell? ⟨B1, 0, none⟩ = some (.int .i64 ttl) := by simp [World.cell?, hy]
        have k1 : y.cell? ⟨B1, 1, none⟩ = some (.int .i64 255) := by simp [World.cell?, hy]
        go_simp
      simp only [Act.put, List.setIfInBounds_toArray, List.set_cons_zero, List.set_cons_succ]
      refine ⟨.bool true, .inl ⟨by rfl, fun y hy => ?_⟩, ?_⟩
      · have k2 := guard_bound
        have k3 := neq_bound (H.near ttl 255) 255 ttl 255 y
        go_simp
      simp only [Act.put, List.setIfInBounds_toArray, List.set_cons_zero, List.set_cons_succ]
      rfl
    intro v1 _ hr1
    have hv1 : Below N w v1 := hu1.trans ((((Below.refl _ u1).drew).trans hr1).mono (Nat.le_trans hNw hu1.size))
    clear hr1 hbl1 hu1
    clear hne
    go_wp2
    go_ret
    exact ⟨rfl, by rw [hN]; exact hv1⟩
  have hx1 := Lib.hid (Classical.not_not.1 hx)
  have hn := H.near_in ttl 255 hx1.out.1 hx1.out.2
  clear hx
  refine region_walk (fun y => y.heap[B1]? = some (.cells #[.int .i64 ttl, .int .i64 255] 74 (0, 0))) (fun x y => Below x.heap.size x y) (by kernel_rfl) (by kernel_rfl) (by kernel_rfl) (fun x => Below.refl _ x) bel_trans (fun x y hx hr => (hr.block B1 (lt_of_block hx)).trans hx) hbl1 ?_
  apply Exists.intro
  refine ⟨?_, ?_⟩
  · refine ⟨.agg #[.int .i64 ttl, .int .i64 255], .inl ⟨by rfl, fun y hy => ?_⟩, ?_⟩
    · have k0 : y.cell? ⟨B1, 0, none⟩ = some (.int .i64 ttl) := by simp [World.cell?, hy]
      have k1 : y.cell? ⟨B1, 1, none⟩ = some (.int .i64 255) := by simp [World.cell?, hy]
      go_simp
    simp only [Act.put, List.setIfInBounds_toArray, List.set_cons_zero, List.set_cons_succ]
    refine ⟨.agg #[.int .i64 ttl, .int .i64 255], .inl ⟨by rfl, fun y hy => ?_⟩, ?_⟩
    · go_simp
      have k4 := nearest_any ttl 255 y
      rw [hn] at k4
      exact k4
    simp only [Act.put, List.setIfInBounds_toArray, List.set_cons_zero, List.set_cons_succ]
    refine ⟨.agg #[.int .i64 ttl, .int .i64 255], .inl ⟨by rfl, fun y hy => ?_⟩, ?_⟩
    · have k0 : y.cell? ⟨B1, 0, none⟩ = some (.int .i64 ttl) := by simp [World.cell?, hy]
      have k1 : y.cell? ⟨B1, 1, none⟩ = some (.int .i64 255) := by simp [World.cell?, hy]
      go_simp
    simp only [Act.put, List.setIfInBounds_toArray, List.set_cons_zero, List.set_cons_succ]
    refine ⟨.bool false, .inl ⟨by rfl, fun y hy => ?_⟩, ?_⟩
    · have k2 := guard_bound
      have k3 := neq_bound ttl 255 ttl 255 y
      go_simp
    simp only [Act.put, List.setIfInBounds_toArray, List.set_cons_zero, List.set_cons_succ]
    rfl
  intro v1 _ hr1
  have hv1 : Below N w v1 := hu1.trans ((((Below.refl _ u1).drew).trans hr1).mono (Nat.le_trans hNw hu1.size))
  clear hr1 hbl1 hu1
  clear hn
  go_wp2_with fail
  rw [rounds_succ]
  have ip := bpick2
  go_upto_region 5 with fail
  clear ip
  have hbl2 : (v1.alloc (.cells #[.int .i64 proto, .int .i64 255] 74)).heap[v1.heap.size]? = some (.cells #[.int .i64 proto, .int .i64 255] 74 (0, 0)) := heap_alloc_new _ _
  have hu2 : Below N w (v1.alloc (.cells #[.int .i64 proto, .int .i64 255] 74)) := hv1.alloc (Nat.le_trans hNw hv1.size) _
  generalize (v1.alloc (.cells #[.int .i64 proto, .int .i64 255] 74)) = u2 at *
  generalize v1.heap.size = B2 at *
  clear hv1
  by_cases hx : ¬ (0 ≤ proto ∧ proto ≤ 255)
  · have hbf : b = false := by rw [Hin.out]; exact decide_eq_false (fun hh => hx hh.2.2.1)
    subst hbf
    have hn := H.near_out proto 255 (by decide) hx
    have hne : (H.near proto 255 == proto) = false := by simp [hn]
    clear hx hn Hin
    refine region_walk (fun y => y.heap[B2]? = some (.cells #[.int .i64 proto, .int .i64 255] 74 (0, 0))) (fun x y => Below x.heap.size x y) (by kernel_rfl) (by kernel_rfl) (by kernel_rfl) (fun x => Below.refl _ x) bel_trans (fun x y hx hr => (hr.block B2 (lt_of_block hx)).trans hx) hbl2 ?_
    apply Exists.intro
    refine ⟨?_, ?_⟩
    · refine ⟨.agg #[.int .i64 proto, .int .i64 255], .inl ⟨by rfl, fun y hy => ?_⟩, ?_⟩
      · have k0 : y.cell? ⟨B2, 0, none⟩ = some (.int .i64 proto) := by simp [World.cell?, hy]
        have k1 : y.cell? ⟨B2, 1, none⟩ = some (.int .i64 255) := by simp [World.cell?, hy]
        go_simp
      simp only [Act.put, List.setIfInBounds_toArray, List.set_cons_zero, List.set_cons_succ]
      refine ⟨.agg #[.int .i64 (H.near proto 255), .int .i64 255], .inl ⟨by rfl, fun y hy => ?_⟩, ?_⟩
      · go_simp
        exact nearest_any proto 255 y
      simp only [Act.put, List.setIfInBounds_toArray, List.set_cons_zero, List.set_cons_succ]
      refine ⟨.agg #[.int .i64 proto, .int .i64 255], .inl ⟨by rfl, fun y hy => ?_⟩, ?_⟩
      · have k0 : y.cell? ⟨B2, 0, none⟩ = some (.int .i64 proto) := by simp [World.cell?, hy]
        have k1 : y.cell? ⟨B2, 1, none⟩ = some (.int .i64 255) := by simp [World.cell?, hy]
        go_simp
      simp only [Act.put, List.setIfInBounds_toArray, List.set_cons_zero, List.set_cons_succ]
      refine ⟨.bool true, .inl ⟨by rfl, fun y hy => ?_⟩, ?_⟩
      · have k2 := guard_bound
        have k3 := neq_bound (H.near proto 255) 255 proto 255 y
        go_simp
      simp only [Act.put, List.setIfInBounds_toArray, List.set_cons_zero, List.set_cons_succ]
      rfl
    intro v2 _ hr2
    have hv2 : Below N w v2 := hu2.trans ((((Below.refl _ u2).drew).trans hr2).mono (Nat.le_trans hNw hu2.size))
    clear hr2 hbl2 hu2
    clear hne
    go_wp2
    go_ret
    exact ⟨rfl, by rw [hN]; exact hv2⟩
  have hx2 := Lib.hid (Classical.not_not.1 hx)
  have hn := H.near_in proto 255 hx2.out.1 hx2.out.2
  clear hx
  refine region_walk (fun y => y.heap[B2]? = some (.cells #[.int .i64 proto, .int .i64 255] 74 (0, 0))) (fun x y => Below x.heap.size x y) (by kernel_rfl) (by kernel_rfl) (by kernel_rfl) (fun x => Below.refl _ x) bel_trans (fun x y hx hr => (hr.block B2 (lt_of_block hx)).trans hx) hbl2 ?_
  apply Exists.intro
  refine ⟨?_, ?_⟩
  · refine ⟨.agg #[.int .i64 proto, .int .i64 255], .inl ⟨by rfl, fun y hy => ?_⟩, ?_⟩
    · have k0 : y.cell? ⟨B2, 0, none⟩ = some (.int .i64 proto) := by simp [World.cell?, hy]
      have k1 : y.cell? ⟨B2, 1, none⟩ = some (.int .i64 255) := by simp [World.cell?, hy]
      go_simp
    simp only [Act.put, List.setIfInBounds_toArray, List.set_cons_zero, List.set_cons_succ]
    refine ⟨.agg #[.int .i64 proto, .int .i64 255], .inl ⟨by rfl, fun y hy => ?_⟩, ?_⟩
    · go_simp
      have k4 := nearest_any proto 255 y
      rw [hn] at k4
      exact k4
    simp only [Act.put, List.setIfInBounds_toArray, List.set_cons_zero, List.set_cons_succ]
    refine ⟨.agg #[.int .i64 proto, .int .i64 255], .inl ⟨by rfl, fun y hy => ?_⟩, ?_⟩
    · have k0 : y.cell? ⟨B2, 0, none⟩ = some (.int .i64 proto) := by simp [World.cell?, hy]
      have k1 : y.cell? ⟨B2, 1, none⟩ = some (.int .i64 255) := by simp [World.cell?, hy]
      go_simp
    simp only [Act.put, List.setIfInBounds_toArray, List.set_cons_zero, List.set_cons_succ]
    refine ⟨.bool false, .inl ⟨by rfl, fun y hy => ?_⟩, ?_⟩
    · have k2 := guard_bound
      have k3 := neq_bound proto 255 proto 255 y
      go_simp
    simp only [Act.put, List.setIfInBounds_toArray, List.set_cons_zero, List.set_cons_succ]
    rfl
  intro v2 _ hr2
  have hv2 : Below N w v2 := hu2.trans ((((Below.refl _ u2).drew).trans hr2).mono (Nat.le_trans hNw hu2.size))
  clear hr2 hbl2 hu2
  clear hn
  go_wp2_with fail
  rw [rounds_succ]
  have ip := bpick3
  go_upto_region 5 with fail
  clear ip
  have hbl3 : (v2.alloc (.cells #[.int .i64 id, .int .i64 65535] 74)).heap[v2.heap.size]? = some (.cells #[.int .i64 id, .int .i64 65535] 74 (0, 0)) := heap_alloc_new _ _
  have hu3 : Below N w (v2.alloc (.cells #[.int .i64 id, .int .i64 65535] 74)) := hv2.alloc (Nat.le_trans hNw hv2.size) _
  generalize (v2.alloc (.cells #[.int .i64 id, .int .i64 65535] 74)) = u3 at *
  generalize v2.heap.size = B3 at *
  clear hv2
  by_cases hx : ¬ (0 ≤ id ∧ id ≤ 65535)
  · have hbf : b = false := by rw [Hin.out]; exact decide_eq_false (fun hh => hx hh.2.2.2.1)
    subst hbf
    have hn := H.near_out id 65535 (by decide) hx
    have hne : (H.near id 65535 == id) = false := by simp [hn]
    clear hx hn Hin
    refine region_walk (fun y => y.heap[B3]? = some (.cells #[.int .i64 id, .int .i64 65535] 74 (0, 0))) (fun x y => Below x.heap.size x y) (by kernel_rfl) (by kernel_rfl) (by kernel_rfl) (fun x => Below.refl _ x) bel_trans (fun x y hx hr => (hr.block B3 (lt_of_block hx)).trans hx) hbl3 ?_
    apply Exists.intro
    refine ⟨?_, ?_⟩
    · refine ⟨.agg #[.int .i64 id, .int .i64 65535], .inl ⟨by rfl, fun y hy => ?_⟩, ?_⟩
      · have k0 : y.cell? ⟨B3, 0, none⟩ = some (.int .i64 id) := by simp [World.cell?, hy]
        have k1 : y.cell? ⟨B3, 1, none⟩ = some (.int .i64 65535) := by simp [World.cell?, hy]
        go_simp
      simp only [Act.put, List.setIfInBounds_toArray, List.set_cons_zero, List.set_cons_succ]
      refine ⟨.agg #[.int .i64 (H.near id 65535), .int .i64 65535], .inl ⟨by rfl, fun y hy => ?_⟩, ?_⟩
      · go_simp
        exact nearest_any id 65535 y
      simp only [Act.put, List.setIfInBounds_toArray, List.set_cons_zero, List.set_cons_succ]
      refine ⟨.agg #[.int .i64 id, .int .i64 65535], .inl ⟨by rfl, fun y hy => ?_⟩, ?_⟩
      · have k0 : y.cell? ⟨B3, 0, none⟩ = some (.int .i64 id) := by simp [World.cell?, hy]
        have k1 : y.cell? ⟨B3, 1, none⟩ = some (.int .i64 65535) := by simp [World.cell?, hy]
        go_simp
      simp only [Act.put, List.setIfInBounds_toArray, List.set_cons_zero, List.set_cons_succ]
      refine ⟨.bool true, .inl ⟨by rfl, fun y hy => ?_⟩, ?_⟩
      · have k2 := guard_bound
        have k3 := neq_bound (H.near id 65535) 65535 id 65535 y
        go_simp
      simp only [Act.put, List.setIfInBounds_toArray, List.set_cons_zero, List.set_cons_succ]
      rfl
    intro v3 _ hr3
    have hv3 : Below N w v3 := hu3.trans ((((Below.refl _ u3).drew).trans hr3).mono (Nat.le_trans hNw hu3.size))
    clear hr3 hbl3 hu3
    clear hne
    go_wp2
    go_ret
    exact ⟨rfl, by rw [hN]; exact hv3⟩
  have hx3 := Lib.hid (Classical.not_not.1 hx)
  have hn := H.near_in id 65535 hx3.out.1 hx3.out.2
  clear hx
  refine region_walk (fun y => y.heap[B3]? = some (.cells #[.int .i64 id, .int .i64 65535] 74 (0, 0))) (fun x y => Below x.heap.size x y) (by kernel_rfl) (by kernel_rfl) (by kernel_rfl) (fun x => Below.refl _ x) bel_trans (fun x y hx hr => (hr.block B3 (lt_of_block hx)).trans hx) hbl3 ?_
  apply Exists.intro
  refine ⟨?_, ?_⟩
  · refine ⟨.agg #[.int .i64 id, .int .i64 65535], .inl ⟨by rfl, fun y hy => ?_⟩, ?_⟩
    · have k0 : y.cell? ⟨B3, 0, none⟩ = some (.int .i64 id) := by simp [World.cell?, hy]
      have k1 : y.cell? ⟨B3, 1, none⟩ = some (.int .i64 65535) := by simp [World.cell?, hy]
      go_simp
    simp only [Act.put, List.setIfInBounds_toArray, List.set_cons_zero, List.set_cons_succ]
    refine ⟨.agg #[.int .i64 id, .int .i64 65535], .inl ⟨by rfl, fun y hy => ?_⟩, ?_⟩
    · go_simp
      have k4 := nearest_any id 65535 y
      rw [hn] at k4
      exact k4
    simp only [Act.put, List.setIfInBounds_toArray, List.set_cons_zero, List.set_cons_succ]
    refine ⟨.agg #[.int .i64 id, .int .i64 65535], .inl ⟨by rfl, fun y hy => ?_⟩, ?_⟩
    · have k0 : y.cell? ⟨B3, 0, none⟩ = some (.int .i64 id) := by simp [World.cell?, hy]
      have k1 : y.cell? ⟨B3, 1, none⟩ = some (.int .i64 65535) := by simp [World.cell?, hy]
      go_simp
    simp only [Act.put, List.setIfInBounds_toArray, List.set_cons_zero, List.set_cons_succ]
    refine ⟨.bool false, .inl ⟨by rfl, fun y hy => ?_⟩, ?_⟩
    · have k2 := guard_bound
      have k3 := neq_bound id 65535 id 65535 y
      go_simp
    simp only [Act.put, List.setIfInBounds_toArray, List.set_cons_zero, List.set_cons_succ]
    rfl
  intro v3 _ hr3
  have hv3 : Below N w v3 := hu3.trans ((((Below.refl _ u3).drew).trans hr3).mono (Nat.le_trans hNw hu3.size))
  clear hr3 hbl3 hu3
  clear hn
  go_wp2_with fail
  rw [rounds_succ]
  have ip := bpick4
  go_upto_region 5 with fail
  clear ip
  have hbl4 : (v3.alloc (.cells #[.int .i64 off, .int .i64 65528] 74)).heap[v3.heap.size]? = some (.cells #[.int .i64 off, .int .i64 65528] 74 (0, 0)) := heap_alloc_new _ _
  have hu4 : Below N w (v3.alloc (.cells #[.int .i64 off, .int .i64 65528] 74)) := hv3.alloc (Nat.le_trans hNw hv3.size) _
  generalize (v3.alloc (.cells #[.int .i64 off, .int .i64 65528] 74)) = u4 at *
  generalize v3.heap.size = B4 at *
  clear hv3
  by_cases hx : ¬ (0 ≤ off ∧ off ≤ 65528)
  · have hbf : b = false := by rw [Hin.out]; exact decide_eq_false (fun hh => hx hh.2.2.2.2.1)
    subst hbf
    have hn := H.near_out off 65528 (by decide) hx
    have hne : (H.near off 65528 == off) = false := by simp [hn]
    clear hx hn Hin
    refine region_walk (fun y => y.heap[B4]? = some (.cells #[.int .i64 off, .int .i64 65528] 74 (0, 0))) (fun x y => Below x.heap.size x y) (by kernel_rfl) (by kernel_rfl) (by kernel_rfl) (fun x => Below.refl _ x) bel_trans (fun x y hx hr => (hr.block B4 (lt_of_block hx)).trans hx) hbl4 ?_
    apply Exists.intro
    refine ⟨?_, ?_⟩
    · refine ⟨.agg #[.int .i64 off, .int .i64 65528], .inl ⟨by rfl, fun y hy => ?_⟩, ?_⟩
      · have k0 : y.cell? ⟨B4, 0, none⟩ = some (.int .i64 off) := by simp [World.cell?, hy]
        have k1 : y.cell? ⟨B4, 1, none⟩ = some (.int .i64 65528) := by simp [World.cell?, hy]
        go_simp
      simp only [Act.put, List.setIfInBounds_toArray, List.set_cons_zero, List.set_cons_succ]
      refine ⟨.agg #[.int .i64 (H.near off 65528), .int .i64 65528], .inl ⟨by rfl, fun y hy => ?_⟩, ?_⟩
      · go_simp
        exact nearest_any off 65528 y
      simp only [Act.put, List.setIfInBounds_toArray, List.set_cons_zero, List.set_cons_succ]
      refine ⟨.agg #[.int .i64 off, .int .i64 65528], .inl ⟨by rfl, fun y hy => ?_⟩, ?_⟩
      · have k0 : y.cell? ⟨B4, 0, none⟩ = some (.int .i64 off) := by simp [World.cell?, hy]
        have k1 : y.cell? ⟨B4, 1, none⟩ = some (.int .i64 65528) := by simp [World.cell?, hy]
        go_simp
      simp only [Act.put, List.setIfInBounds_toArray, List.set_cons_zero, List.set_cons_succ]
      refine ⟨.bool true, .inl ⟨by rfl, fun y hy => ?_⟩, ?_⟩
      · have k2 := guard_bound
        have k3 := neq_bound (H.near off 65528) 65528 off 65528 y
        go_simp
      simp only [Act.put, List.setIfInBounds_toArray, List.set_cons_zero, List.set_cons_succ]
      rfl
    intro v4 _ hr4
    have hv4 : Below N w v4 := hu4.trans ((((Below.refl _ u4).drew).trans hr4).mono (Nat.le_trans hNw hu4.size))
    clear hr4 hbl4 hu4
    clear hne
    go_wp2
    go_ret
    exact ⟨rfl, by rw [hN]; exact hv4⟩
  have hx4 := Lib.hid (Classical.not_not.1 hx)
  have hn := H.near_in off 65528 hx4.out.1 hx4.out.2
  clear hx
  refine region_walk (fun y => y.heap[B4]? = some (.cells #[.int .i64 off, .int .i64 65528] 74 (0, 0))) (fun x y => Below x.heap.size x y) (by kernel_rfl) (by kernel_rfl) (by kernel_rfl) (fun x => Below.refl _ x) bel_trans (fun x y hx hr => (hr.block B4 (lt_of_block hx)).trans hx) hbl4 ?_
  apply Exists.intro
  refine ⟨?_, ?_⟩
  · refine ⟨.agg #[.int .i64 off, .int .i64 65528], .inl ⟨by rfl, fun y hy => ?_⟩, ?_⟩
    · have k0 : y.cell? ⟨B4, 0, none⟩ = some (.int .i64 off) := by simp [World.cell?, hy]
      have k1 : y.cell? ⟨B4, 1, none⟩ = some (.int .i64 65528) := by simp [World.cell?, hy]
      go_simp
    simp only [Act.put, List.setIfInBounds_toArray, List.set_cons_zero, List.set_cons_succ]
    refine ⟨.agg #[.int .i64 off, .int .i64 65528], .inl ⟨by rfl, fun y hy => ?_⟩, ?_⟩
    · go_simp
      have k4 := nearest_any off 65528 y
      rw [hn] at k4
      exact k4
    simp only [Act.put, List.setIfInBounds_toArray, List.set_cons_zero, List.set_cons_succ]
    refine ⟨.agg #[.int .i64 off, .int .i64 65528], .inl ⟨by rfl, fun y hy => ?_⟩, ?_⟩
    · have k0 : y.cell? ⟨B4, 0, none⟩ = some (.int .i64 off) := by simp [World.cell?, hy]
      have k1 : y.cell? ⟨B4, 1, none⟩ = some (.int .i64 65528) := by simp [World.cell?, hy]
      go_simp
    simp only [Act.put, List.setIfInBounds_toArray, List.set_cons_zero, List.set_cons_succ]
    refine ⟨.bool false, .inl ⟨by rfl, fun y hy => ?_⟩, ?_⟩
    · have k2 := guard_bound
      have k3 := neq_bound off 65528 off 65528 y
      go_simp
    simp only [Act.put, List.setIfInBounds_toArray, List.set_cons_zero, List.set_cons_succ]
    rfl
  intro v4 _ hr4
  have hv4 : Below N w v4 := hu4.trans ((((Below.refl _ u4).drew).trans hr4).mono (Nat.le_trans hNw hu4.size))
  clear hr4 hbl4 hu4
  clear hn
  go_wp2_with fail
  rw [rounds_succ]
  have ip := bpick5
  go_upto_region 5 with fail
  clear ip
  have hbl5 : (v4.alloc (.cells #[.int .i64 z, .int .i64 65535] 74)).heap[v4.heap.size]? = some (.cells #[.int .i64 z, .int .i64 65535] 74 (0, 0)) := heap_alloc_new _ _
  have hu5 : Below N w (v4.alloc (.cells #[.int .i64 z, .int .i64 65535] 74)) := hv4.alloc (Nat.le_trans hNw hv4.size) _
  generalize (v4.alloc (.cells #[.int .i64 z, .int .i64 65535] 74)) = u5 at *
  generalize v4.heap.size = B5 at *
  clear hv4
  by_cases hx : ¬ (0 ≤ z ∧ z ≤ 65535)
  · have hbf : b = false := by rw [Hin.out]; exact decide_eq_false (fun hh => hx hh.2.2.2.2.2.1)
    subst hbf
    have hn := H.near_out z 65535 (by decide) hx
    have hne : (H.near z 65535 == z) = false := by simp [hn]
    clear hx hn Hin
    refine region_walk (fun y => y.heap[B5]? = some (.cells #[.int .i64 z, .int .i64 65535] 74 (0, 0))) (fun x y => Below x.heap.size x y) (by kernel_rfl) (by kernel_rfl) (by kernel_rfl) (fun x => Below.refl _ x) bel_trans (fun x y hx hr => (hr.block B5 (lt_of_block hx)).trans hx) hbl5 ?_
    apply Exists.intro
    refine ⟨?_, ?_⟩
    · refine ⟨.agg #[.int .i64 z, .int .i64 65535], .inl ⟨by rfl, fun y hy => ?_⟩, ?_⟩
      · have k0 : y.cell? ⟨B5, 0, none⟩ = some (.int .i64 z) := by simp [World.cell?, hy]
        have k1 : y.cell? ⟨B5, 1, none⟩ = some (.int .i64 65535) := by simp [World.cell?, hy]
        go_simp
      simp only [Act.put, List.setIfInBounds_toArray, List.set_cons_zero, List.set_cons_succ]
      refine ⟨.agg #[.int .i64 (H.near z 65535), .int .i64 65535], .inl ⟨by rfl, fun y hy => ?_⟩, ?_⟩
      · go_simp
        exact nearest_any z 65535 y
      simp only [Act.put, List.setIfInBounds_toArray, List.set_cons_zero, List.set_cons_succ]
      refine ⟨.agg #[.int .i64 z, .int .i64 65535], .inl ⟨by rfl, fun y hy => ?_⟩, ?_⟩
      · have k0 : y.cell? ⟨B5, 0, none⟩ = some (.int .i64 z) := by simp [World.cell?, hy]
        have k1 : y.cell? ⟨B5, 1, none⟩ = some (.int .i64 65535) := by simp [World.cell?, hy]
        go_simp
      simp only [Act.put, List.setIfInBounds_toArray, List.set_cons_zero, List.set_cons_succ]
      refine ⟨.bool true, .inl ⟨by rfl, fun y hy => ?_⟩, ?_⟩
      · have k2 := guard_bound
        have k3 := neq_bound (H.near z 65535) 65535 z 65535 y
        go_simp
      simp only [Act.put, List.setIfInBounds_toArray, List.set_cons_zero, List.set_cons_succ]
      rfl
    intro v5 _ hr5
    have hv5 : Below N w v5 := hu5.trans ((((Below.refl _ u5).drew).trans hr5).mono (Nat.le_trans hNw hu5.size))
    clear hr5 hbl5 hu5
    clear hne
    go_wp2
    go_ret
    exact ⟨rfl, by rw [hN]; exact hv5⟩
  have hx5 := Lib.hid (Classical.not_not.1 hx)
  have hn := H.near_in z 65535 hx5.out.1 hx5.out.2
  clear hx
  refine region_walk (fun y => y.heap[B5]? = some (.cells #[.int .i64 z, .int .i64 65535] 74 (0, 0))) (fun x y => Below x.heap.size x y) (by kernel_rfl) (by kernel_rfl) (by kernel_rfl) (fun x => Below.refl _ x) bel_trans (fun x y hx hr => (hr.block B5 (lt_of_block hx)).trans hx) hbl5 ?_
  apply Exists.intro
  refine ⟨?_, ?_⟩
  · refine ⟨.agg #[.int .i64 z, .int .i64 65535], .inl ⟨by rfl, fun y hy => ?_⟩, ?_⟩
    · have k0 : y.cell? ⟨B5, 0, none⟩ = some (.int .i64 z) := by simp [World.cell?, hy]
      have k1 : y.cell? ⟨B5, 1, none⟩ = some (.int .i64 65535) := by simp [World.cell?, hy]
      go_simp
    simp only [Act.put, List.setIfInBounds_toArray, List.set_cons_zero, List.set_cons_succ]
    refine ⟨.agg #[.int .i64 z, .int .i64 65535], .inl ⟨by rfl, fun y hy => ?_⟩, ?_⟩
    · go_simp
      have k4 := nearest_any z 65535 y
      rw [hn] at k4
      exact k4
    simp only [Act.put, List.setIfInBounds_toArray, List.set_cons_zero, List.set_cons_succ]
    refine ⟨.agg #[.int .i64 z, .int .i64 65535], .inl ⟨by rfl, fun y hy => ?_⟩, ?_⟩
    · have k0 : y.cell? ⟨B5, 0, none⟩ = some (.int .i64 z) := by simp [World.cell?, hy]
      have k1 : y.cell? ⟨B5, 1, none⟩ = some (.int .i64 65535) := by simp [World.cell?, hy]
      go_simp
    simp only [Act.put, List.setIfInBounds_toArray, List.set_cons_zero, List.set_cons_succ]
    refine ⟨.bool false, .inl ⟨by rfl, fun y hy => ?_⟩, ?_⟩
    · have k2 := guard_bound
      have k3 := neq_bound z 65535 z 65535 y
      go_simp
    simp only [Act.put, List.setIfInBounds_toArray, List.set_cons_zero, List.set_cons_succ]
    rfl
  intro v5 _ hr5
  have hv5 : Below N w v5 := hu5.trans ((((Below.refl _ u5).drew).trans hr5).mono (Nat.le_trans hNw hu5.size))
  clear hr5 hbl5 hu5
  clear hn
  go_wp2_with fail
  rw [rounds_succ]
  have ip := bpick6
  go_upto_region 5 with fail
  clear ip
  have hbl6 : (v5.alloc (.cells #[.int .i64 t, .int .i64 65535] 74)).heap[v5.heap.size]? = some (.cells #[.int .i64 t, .int .i64 65535] 74 (0, 0)) := heap_alloc_new _ _
  have hu6 : Below N w (v5.alloc (.cells #[.int .i64 t, .int .i64 65535] 74)) := hv5.alloc (Nat.le_trans hNw hv5.size) _
  generalize (v5.alloc (.cells #[.int .i64 t, .int .i64 65535] 74)) = u6 at *
  generalize v5.heap.size = B6 at *
  clear hv5
  by_cases hx : ¬ (0 ≤ t ∧ t ≤ 65535)
  · have hbf : b = false := by rw [Hin.out]; exact decide_eq_false (fun hh => hx hh.2.2.2.2.2.2)
    subst hbf
    have hn := H.near_out t 65535 (by decide) hx
    have hne : (H.near t 65535 == t) = false := by simp [hn]
    clear hx hn Hin
    refine region_walk (fun y => y.heap[B6]? = some (.cells #[.int .i64 t, .int .i64 65535] 74 (0, 0))) (fun x y => Below x.heap.size x y) (by kernel_rfl) (by kernel_rfl) (by kernel_rfl) (fun x => Below.refl _ x) bel_trans (fun x y hx hr => (hr.block B6 (lt_of_block hx)).trans hx) hbl6 ?_
    apply Exists.intro
    refine ⟨?_, ?_⟩
    · refine ⟨.agg #[.int .i64 t, .int .i64 65535], .inl ⟨by rfl, fun y hy => ?_⟩, ?_⟩
      · have k0 : y.cell? ⟨B6, 0, none⟩ = some (.int .i64 t) := by simp [World.cell?, hy]
        have k1 : y.cell? ⟨B6, 1, none⟩ = some (.int .i64 65535) := by simp [World.cell?, hy]
        go_simp
      simp only [Act.put, List.setIfInBounds_toArray, List.set_cons_zero, List.set_cons_succ]
      refine ⟨.agg #[.int .i64 (H.near t 65535), .int .i64 65535], .inl ⟨by rfl, fun y hy => ?_⟩, ?_⟩
      · go_simp
        exact nearest_any t 65535 y
      simp only [Act.put, List.setIfInBounds_toArray, List.set_cons_zero, List.set_cons_succ]
      refine ⟨.agg #[.int .i64 t, .int .i64 65535], .inl ⟨by rfl, fun y hy => ?_⟩, ?_⟩
      · have k0 : y.cell? ⟨B6, 0, none⟩ = some (.int .i64 t) := by simp [World.cell?, hy]
        have k1 : y.cell? ⟨B6, 1, none⟩ = some (.int .i64 65535) := by simp [World.cell?, hy]
        go_simp
      simp only [Act.put, List.setIfInBounds_toArray, List.set_cons_zero, List.set_cons_succ]
      refine ⟨.bool true, .inl ⟨by rfl, fun y hy => ?_⟩, ?_⟩
      · have k2 := guard_bound
        have k3 := neq_bound (H.near t 65535) 65535 t 65535 y
        go_simp
      simp only [Act.put, List.setIfInBounds_toArray, List.set_cons_zero, List.set_cons_succ]
      rfl
    intro v6 _ hr6
    have hv6 : Below N w v6 := hu6.trans ((((Below.refl _ u6).drew).trans hr6).mono (Nat.le_trans hNw hu6.size))
    clear hr6 hbl6 hu6
    clear hne
    go_wp2
    go_ret
    exact ⟨rfl, by rw [hN]; exact hv6⟩
  have hx6 := Lib.hid (Classical.not_not.1 hx)
  have hn := H.near_in t 65535 hx6.out.1 hx6.out.2
  clear hx
  refine region_walk (fun y => y.heap[B6]? = some (.cells #[.int .i64 t, .int .i64 65535] 74 (0, 0))) (fun x y => Below x.heap.size x y) (by kernel_rfl) (by kernel_rfl) (by kernel_rfl) (fun x => Below.refl _ x) bel_trans (fun x y hx hr => (hr.block B6 (lt_of_block hx)).trans hx) hbl6 ?_
  apply Exists.intro
  refine ⟨?_, ?_⟩
  · refine ⟨.agg #[.int .i64 t, .int .i64 65535], .inl ⟨by rfl, fun y hy => ?_⟩, ?_⟩
    · have k0 : y.cell? ⟨B6, 0, none⟩ = some (.int .i64 t) := by simp [World.cell?, hy]
      have k1 : y.cell? ⟨B6, 1, none⟩ = some (.int .i64 65535) := by simp [World.cell?, hy]
      go_simp
    simp only [Act.put, List.setIfInBounds_toArray, List.set_cons_zero, List.set_cons_succ]
    refine ⟨.agg #[.int .i64 t, .int .i64 65535], .inl ⟨by rfl, fun y hy => ?_⟩, ?_⟩
    · go_simp
      have k4 := nearest_any t 65535 y
      rw [hn] at k4
      exact k4
    simp only [Act.put, List.setIfInBounds_toArray, List.set_cons_zero, List.set_cons_succ]
    refine ⟨.agg #[.int .i64 t, .int .i64 65535], .inl ⟨by rfl, fun y hy => ?_⟩, ?_⟩
    · have k0 : y.cell? ⟨B6, 0, none⟩ = some (.int .i64 t) := by simp [World.cell?, hy]
      have k1 : y.cell? ⟨B6, 1, none⟩ = some (.int .i64 65535) := by simp [World.cell?, hy]
      go_simp
    simp only [Act.put, List.setIfInBounds_toArray, List.set_cons_zero, List.set_cons_succ]
    refine ⟨.bool false, .inl ⟨by rfl, fun y hy => ?_⟩, ?_⟩
    · have k2 := guard_bound
      have k3 := neq_bound t 65535 t 65535 y
      go_simp
    simp only [Act.put, List.setIfInBounds_toArray, List.set_cons_zero, List.set_cons_succ]
    rfl
  intro v6 _ hr6
  have hv6 : Below N w v6 := hu6.trans ((((Below.refl _ u6).drew).trans hr6).mono (Nat.le_trans hNw hu6.size))
  clear hr6 hbl6 hu6
  clear hn
  go_wp2_with fail
  rw [rounds_succ]
  have hbt : b = true := by rw [Hin.out]; exact decide_eq_true ⟨hx0.out, hx1.out, hx2.out, hx3.out, hx4.out, hx5.out, hx6.out⟩
  subst hbt
  go_wp2
  go_ret
  exact ⟨rfl, by rw [hN]; exact hv6⟩
#print axioms inBounds_go
end Go.Proofs.YtncnildpbccpaaaGreatDoor

namespace Go.Proofs.YtncnildpbccpaaaGreatDoor
open Go.RowKit
set_option linter.unusedVariables false

/-- Is a packet right? -/
def H.right (tos id : Int) (off ttl proto : Int) (l : List Opt) (n : Nat) : Bool :=
  l.all O.right && decide (O.size l ≤ 40) && decide (H.within tos ttl proto id off ((20 + O.size l + n : Nat) : Int) (IntKind.i64.wrap (off + (n : Int)))) && decide (off % 8 = 0)

theorem O.encoded_err (l : List Opt) : (O.encoded l).2 = if l.all O.right && decide (O.size l ≤ 40) then 0 else (O.encoded l).2 := by
  by_cases h : l.all O.right = true
  · by_cases hs : 40 < O.size l
    · rw [O.encoded_long l h hs, if_neg (by simp; omega)]
    · rw [O.encoded_ok l h hs]
      simp
  · rw [if_neg (by simp [h])]
theorem O.encoded_no (l : List Opt) (h : (l.all O.right && decide (O.size l ≤ 40)) = false) : ((O.encoded l).2 == 0) = false := by
  by_cases hr : l.all O.right = true
  · rw [O.encoded_long l hr (by rw [hr] at h; simpa using h)]
    rfl
  · rw [O.encoded_bad l (by simpa using hr)]
    rfl
theorem O.encoded_yes (l : List Opt) (h : (l.all O.right && decide (O.size l ≤ 40)) = true) : O.encoded l = (⟨(O.enc l).toArray⟩, 0) := by
  simp only [Bool.and_eq_true, decide_eq_true_eq] at h
  exact O.encoded_ok l h.1 (by omega)

set_option maxHeartbeats 1000000 in
theorem hright_any (tos id : Int) (df mf : Bool) (off ttl proto src dst : Int) (a : Option Addr) (cap : Nat) (l : List Opt) (d : ByteArray) (w : World) (h : OptRow w a l) (hl : l.length ≤ 60) (hd : ∀ o ∈ l, o.data.size ≤ 100) (hds : d.size ≤ 70000) :
    Calls Tryz.prog 8 #[pk tos id df mf off ttl proto src dst (.slice a l.length cap) d] w fun e w' => e = .returned (.bool (H.right tos id off ttl proto l d.size)) ∧ Below w.heap.size w w' := by
  have hp0 : PkAt w.heap.size (pkO tos id df mf off ttl proto src dst (.slice a l.length cap) d) a l (w.alloc (pkO tos id df mf off ttl proto src dst (.slice a l.length cap) d)) :=
    ⟨heap_alloc_new w _, h.carry ((Below.refl _ w).alloc (Nat.le_refl _) _)⟩
  have hb0 : Below w.heap.size w (w.alloc (pkO tos id df mf off ttl proto src dst (.slice a l.length cap) d)) := (Below.refl _ w).alloc (Nat.le_refl _) _
  have He := Lib.hid (fun w' (h' : OptRow w' a l) => optEnc_any a cap l w' h' hl hd)
  have Hi := Lib.hid (fun w' (h' : OptRow w' a l) => inBounds_go tos id df mf off ttl proto src dst a cap l d w' h' hl hd hds _ _ rfl rfl _ rfl)
  have Hc : Hid (∀ w', PkAt w.heap.size (pkO tos id df mf off ttl proto src dst (.slice a l.length cap) d) a l w' → w'.cell? ⟨w.heap.size, 0, none⟩ = some (.int .i64 tos) ∧ w'.cell? ⟨w.heap.size, 1, none⟩ = some (.int .i64 id) ∧ w'.cell? ⟨w.heap.size, 2, none⟩ = some (.bool df) ∧ w'.cell? ⟨w.heap.size, 3, none⟩ = some (.bool mf) ∧ w'.cell? ⟨w.heap.size, 4, none⟩ = some (.int .i64 off) ∧ w'.cell? ⟨w.heap.size, 5, none⟩ = some (.int .i64 ttl) ∧ w'.cell? ⟨w.heap.size, 6, none⟩ = some (.int .i64 proto) ∧ w'.cell? ⟨w.heap.size, 7, none⟩ = some (.int .u32 src) ∧ w'.cell? ⟨w.heap.size, 8, none⟩ = some (.int .u32 dst) ∧ w'.cell? ⟨w.heap.size, 9, none⟩ = some (.slice a l.length cap) ∧ w'.cell? ⟨w.heap.size, 10, none⟩ = some (.string d)) :=
    Lib.hid fun w' hw' => by
      have := hw'.blk
      simp [World.cell?, this]
  cases hA : (l.all O.right && decide (O.size l ≤ 40)) with
  | false =>
    have hr : H.right tos id off ttl proto l d.size = false := by unfold H.right; rw [hA]; rfl
    have hne := O.encoded_no l hA
    rw [hr]
    clear hr hA Hi Hc
    generalize O.encoded l = E at *
    obtain ⟨E1, E2⟩ := E
    simp only at He hne
    go_enter Tryz.func8, Tryz.ntmps8
    go_wp2_with fail
    refine (He.out _ hp0.row).mono ?_
    rintro e w1 ⟨rfl, hb1⟩
    have hbw := hb0.trans (hb1.mono hb0.size)
    clear hb0 hb1 hp0 He
    go_wp2
    go_ret
    exact ⟨rfl, hbw⟩
  | true =>
    rw [O.encoded_yes l hA] at He
    have hr : H.right tos id off ttl proto l d.size = (decide (H.within tos ttl proto id off ((20 + O.size l + d.size : Nat) : Int) (IntKind.i64.wrap (off + (d.size : Int)))) && decide (off % 8 = 0)) := by unfold H.right; rw [hA]; rfl
    rw [hr]
    clear hr hA
    cases hW : decide (H.within tos ttl proto id off ((20 + O.size l + d.size : Nat) : Int) (IntKind.i64.wrap (off + (d.size : Int)))) with
    | false =>
      rw [hW] at Hi
      clear hW
      generalize (⟨(O.enc l).toArray⟩ : ByteArray) = E1 at *
      simp only [Bool.false_and]
      go_enter Tryz.func8, Tryz.ntmps8
      go_wp2_with fail
      refine (He.out _ hp0.row).mono ?_
      rintro e w1 ⟨rfl, hb1⟩
      have hp1 := hp0.carry hb1
      obtain ⟨k0, k1, k2, k3, k4, k5, k6, k7, k8, k9, k10⟩ := Hc.out _ hp1
      have hbw := hb0.trans (hb1.mono hb0.size)
      clear hb0 hb1 hp0 He
      go_wp2_with fail
      refine (Hi.out _ hp1.row).mono ?_
      rintro e w2 ⟨rfl, hb2⟩
      have hbw2 := hbw.trans (hb2.mono hbw.size)
      clear hbw hb2 Hi hp1 Hc k0 k1 k2 k3 k4 k5 k6 k7 k8 k9 k10
      go_wp2
      go_ret
      exact ⟨rfl, hbw2⟩
    | true =>
      rw [hW] at Hi
      have hoff : 0 ≤ off := (of_decide_eq_true hW).2.2.2.2.1.1
      have hmod : off.tmod 8 = off % 8 := Int.tmod_eq_emod_of_nonneg hoff
      have hbeq : (off % 8 == 0) = decide (off % 8 = 0) := by rw [Bool.eq_iff_iff]; simp
      clear hW
      generalize (⟨(O.enc l).toArray⟩ : ByteArray) = E1 at *
      simp only [Bool.true_and]
      go_enter Tryz.func8, Tryz.ntmps8
      go_wp2_with fail
      refine (He.out _ hp0.row).mono ?_
      rintro e w1 ⟨rfl, hb1⟩
      have hp1 := hp0.carry hb1
      obtain ⟨k0, k1, k2, k3, k4, k5, k6, k7, k8, k9, k10⟩ := Hc.out _ hp1
      have hbw := hb0.trans (hb1.mono hb0.size)
      clear hb0 hb1 hp0 He
      go_wp2_with fail
      refine (Hi.out _ hp1.row).mono ?_
      rintro e w2 ⟨rfl, hb2⟩
      have hp2 := hp1.carry hb2
      have hbw2 := hbw.trans (hb2.mono hbw.size)
      clear k0 k1 k2 k3 k4 k5 k6 k7 k8 k9 k10
      obtain ⟨k0, k1, k2, k3, k4, k5, k6, k7, k8, k9, k10⟩ := Hc.out _ hp2
      clear hbw hb2 Hi hp1 Hc k0 k1 k2 k3 k5 k6 k7 k8 k9 k10 hp2
      go_wp2
      go_ret
      exact ⟨by rw [← hbeq]; rfl, hbw2⟩
#print axioms hright_any
end Go.Proofs.YtncnildpbccpaaaGreatDoor

namespace Go.Proofs.YtncnildpbccpaaaGreatDoor
open Go
section
variable {P : Program} {ops : Array Oper} {md : Region.Mode}

/-- How many of the first n are not listed. -/
def unl (listed : Array Bool) : Nat → Nat
  | 0 => 0
  | n + 1 => unl listed n + (if listed.getD n true then 0 else 1)

theorem unl_le (listed : Array Bool) (n : Nat) : unl listed n ≤ n := by
  induction n with
  | zero => exact Nat.le_refl _
  | succ n ih => simp only [unl]; split <;> omega
theorem unl_far (listed : Array Bool) (i : Nat) : ∀ n, n ≤ i → unl (listed.setIfInBounds i true) n = unl listed n
  | 0, _ => rfl
  | n + 1, h => by
    simp only [unl]
    rw [unl_far listed i n (by omega), getD_set_ne true (by omega)]
theorem unl_set (listed : Array Bool) (i : Nat) (hun : listed.getD i true = false) : ∀ n, i < n → unl (listed.setIfInBounds i true) n + 1 = unl listed n
  | 0, h => absurd h (Nat.not_lt_zero _)
  | n + 1, h => by
    simp only [unl]
    by_cases hin : i = n
    · subst hin
      rw [unl_far listed i i (Nat.le_refl _), set_self, hun]
      simp
    · have := unl_set listed i hun n (by omega)
      rw [getD_set_ne true hin]
      omega
theorem unl_zero (listed : Array Bool) : ∀ n, unl listed n = 0 → ∀ i, i < n → listed.getD i true = true
  | 0, _, i, hi => absurd hi (Nat.not_lt_zero _)
  | n + 1, h, i, hi => by
    simp only [unl] at h
    by_cases hin : i = n
    · subst hin
      by_cases hl : listed.getD i true = true
      · exact hl
      · rw [if_neg hl] at h
        omega
    · exact unl_zero listed n (by omega) i (by omega)

/-- What is asked of an operation that comes up: K of its value and of the world behind it. -/
def planUpon (P : Program) (K : Value → World → Prop) : Result Next → Prop
  | .ok (.value v) w' => K v w'
  | .ok (.enter f args) w' => Calls P f args w' (fun e w'' => ∃ v, e = .returned v ∧ K v w'')
  | _ => False

/-- What is known of the frame and of what has come up. -/
structure Seen (md : Region.Mode) (ops : Array Oper) (V : Nat → Value → World → Prop) (a0 : Act) (listed : Array Bool) (a : Act) (w : World) : Prop where
  size : listed.size = ops.size
  old : ∀ t, (∀ (i : Nat) o, ops[i]? = some o → o.dst = some t → listed.getD i false = false) → a.tmps[t]? = a0.tmps[t]?
  val : ∀ (i : Nat) o d, ops[i]? = some o → listed.getD i false = true → o.dst = some d → ∃ v, a.tmps[d]? = some v ∧ V i v w
  tmps : a.tmps.size = a0.tmps.size
  defs : a.defers = a0.defers
  closed : ∀ (i : Nat) o, ops[i]? = some o → listed.getD i false = true → ∀ e ∈ o.after, Region.binds md e = true → listed.getD e.on false = true

theorem Seen.eval {V : Nat → Value → World → Prop} {a0 a : Act} {listed : Array Bool} {w : World} (h : Seen md ops V a0 listed a w) (i : Nat) (o : Oper) (d : Nat) (ho : ops[i]? = some o) (hl : listed.getD i false = true) (hd : o.dst = some d) : V i (a.eval (.tmp d)) w := by
  obtain ⟨v, h1, h2⟩ := h.val i o d ho hl hd
  have : a.eval (.tmp d) = v := by simp [Act.eval, h1]
  rwa [this]
theorem Seen.was {V : Nat → Value → World → Prop} {a0 a : Act} {listed : Array Bool} {w : World} (h : Seen md ops V a0 listed a w) (t : Nat) (ht : ∀ (i : Nat) o, ops[i]? = some o → o.dst ≠ some t) : a.eval (.tmp t) = a0.eval (.tmp t) := by
  simp [Act.eval, h.old t (fun i o ho hd => absurd hd (ht i o ho))]
/-- A slot that an operation writes, ahead of it. -/
theorem Seen.yet {V : Nat → Value → World → Prop} {a0 a : Act} {listed : Array Bool} {w : World} (h : Seen md ops V a0 listed a w) (t k : Nat) (ht : ((List.range ops.size).all fun i => i == k || (match ops[i]? with | some o => o.dst != some t | none => true)) = true) (hk : listed.getD k true = false) : a.eval (.tmp t) = a0.eval (.tmp t) := by
  have := h.old t (fun i o ho hd => by
    have h1 := List.all_eq_true.1 ht i (List.mem_range.2 (Array.getElem?_eq_some_iff.1 ho).1)
    by_cases hik : i = k
    · subst hik
      exact getD_both hk
    · simp [hik, ho, hd] at h1)
  simp [Act.eval, this]

/-- Edges go back, nothing is guarded, each operation has a slot of its own. -/
def planB (md : Region.Mode) (ops : Array Oper) (m : Nat) : Bool :=
  ((List.range ops.size).all fun i => match ops[i]? with
    | some o => (o.after.all fun e => !Region.binds md e || decide (e.on < i)) && o.guard.isNone
    | none => true) && dstsB m ops.toList

theorem dsts_two {m : Nat} : ∀ {l : List Oper}, dstsB m l = true → ∀ (i j : Nat) oi oj, l[i]? = some oi → l[j]? = some oj → i ≠ j → oi.dst ≠ oj.dst
  | [], _, i, j, oi, oj, hi, _, _ => by simp at hi
  | o :: l, h, i, j, oi, oj, hi, hj, hne => by
    simp only [dstsB, Bool.and_eq_true] at h
    obtain ⟨h1, h2⟩ := h
    cases ho : o.dst with
    | none => rw [ho] at h1; cases h1
    | some d =>
      rw [ho] at h1
      simp only [Bool.and_eq_true, decide_eq_true_eq] at h1
      have hdl : ∀ o' ∈ l, o'.dst ≠ some d := fun o' ho' => by simpa using List.all_eq_true.1 h1.2 o' ho'
      cases i with
      | zero =>
        cases j with
        | zero => exact absurd rfl hne
        | succ j =>
          simp only [List.getElem?_cons_zero, Option.some.injEq] at hi
          subst hi
          rw [ho]
          exact fun e => hdl oj (List.mem_of_getElem? (by simpa using hj)) e.symm
      | succ i =>
        cases j with
        | zero =>
          simp only [List.getElem?_cons_zero, Option.some.injEq] at hj
          subst hj
          rw [ho]
          exact hdl oi (List.mem_of_getElem? (by simpa using hi))
        | succ j => exact dsts_two h2 i j oi oj (by simpa using hi) (by simpa using hj) (by omega)
theorem dsts_some {m : Nat} : ∀ {l : List Oper}, dstsB m l = true → ∀ o ∈ l, ∃ d, o.dst = some d ∧ d < m
  | [], _, o, ho => by cases ho
  | o :: l, h, o', ho' => by
    simp only [dstsB, Bool.and_eq_true] at h
    obtain ⟨h1, h2⟩ := h
    rcases List.mem_cons.1 ho' with rfl | hm
    · cases ho : o'.dst with
      | none => rw [ho] at h1; cases h1
      | some d =>
        rw [ho] at h1
        simp only [Bool.and_eq_true, decide_eq_true_eq] at h1
        exact ⟨d, rfl, h1.1⟩
    · exact dsts_some h2 o' hm

/-- The values laid into the operations' slots. -/
def lays (a : Act) : List Oper → List Value → Act
  | o :: l, v :: vs => lays (a.put o.dst v) l vs
  | _, _ => a

theorem lays_eq {b : Act} : ∀ (l : List Oper) (vs : List Value) (a : Act), dstsB a.tmps.size l = true → l.length = vs.length → b.defers = a.defers → b.tmps.size = a.tmps.size →
    (∀ t, (∀ o ∈ l, o.dst ≠ some t) → b.tmps[t]? = a.tmps[t]?) → (∀ (i : Nat) o d, l[i]? = some o → o.dst = some d → b.tmps[d]? = vs[i]?) → b = lays a l vs
  | [], vs, a, _, hl, hd, hz, h1, _ => by
    cases vs with
    | nil =>
      have ht : b.tmps = a.tmps := Array.ext_getElem? fun t => h1 t (fun o ho => by cases ho)
      cases a
      cases b
      simp only at hd ht
      subst hd
      subst ht
      rfl
    | cons v vs => simp at hl
  | o :: l, vs, a, hB, hl, hd, hz, h1, h2 => by
    cases vs with
    | nil => simp at hl
    | cons v vs =>
      obtain ⟨d, ho, hdm⟩ := dsts_some hB o List.mem_cons_self
      have hB' := hB
      simp only [dstsB, Bool.and_eq_true] at hB'
      refine lays_eq l vs (a.put o.dst v) (by rw [put_tmps]; exact hB'.2) (by simpa using hl) (by rw [hd, ho]; rfl) (by rw [put_tmps]; exact hz) (fun t ht => ?_) (fun i o' d' ho' hd' => ?_)
      · by_cases hdt : o.dst = some t
        · rw [h2 0 o t (by simp) hdt, hdt]
          rw [ho] at hdt
          cases hdt
          simp [Act.put, hdm]
        · rw [put_other _ _ _ _ hdt]
          exact h1 t (fun o' ho' => (List.mem_cons.1 ho').elim (fun e => e ▸ hdt) (fun hm => ht o' hm))
      · have := h2 (i + 1) o' d' (by simpa using ho') hd'
        simpa using this

theorem plan_any {V : Nat → Value → World → Prop} {S : Array Bool → World → Prop} {Q : Exit → Act → World → Prop} {a0 : Act} (hB : planB md ops a0.tmps.size = true)
    (hstep : ∀ (i : Nat) o, ops[i]? = some o → ∀ listed a w, Seen md ops V a0 listed a w → S listed w → listed.getD i true = false → (∀ e ∈ o.after, Region.binds md e = true → listed.getD e.on false = true) →
      planUpon P (fun v w' => V i v w' ∧ S (listed.setIfInBounds i true) w' ∧ ∀ j u, V j u w → V j u w') ((execOp a.eval o).run P w))
    (hfin : ∀ (vs : List Value) listed w, vs.length = ops.size → (∀ (i : Nat) v, vs[i]? = some v → V i v w) → (∀ i, i < ops.size → listed.getD i false = true) → S listed w → Q .normal (lays a0 ops.toList vs) w) (f : Nat) :
    ∀ listed a w, unl listed ops.size ≤ f → Seen md ops V a0 listed a w → S listed w → wpAny P md ops Q f listed a w := by
  simp only [planB, Bool.and_eq_true] at hB
  obtain ⟨hB1, hB2⟩ := hB
  have back : ∀ (i : Nat) o, ops[i]? = some o → (∀ e ∈ o.after, Region.binds md e = true → e.on < i) ∧ o.guard = none := fun i o ho => by
    have := List.all_eq_true.1 hB1 i (List.mem_range.2 (Array.getElem?_eq_some_iff.1 ho).1)
    simp only [ho, Bool.and_eq_true] at this
    refine ⟨fun e he hb => ?_, by simpa using this.2⟩
    have h1 := Array.all_eq_true_iff_forall_mem.1 this.1 e he
    simpa [hb] using h1
  have full : ∀ listed : Array Bool, listed.size = ops.size → Region.ready md ops listed = [] → ∀ n i, i < n → i < ops.size → listed.getD i false = true := fun listed hz hr n => by
    induction n with
    | zero => intro i hi; exact absurd hi (Nat.not_lt_zero _)
    | succ n ih =>
      intro i hi hio
      by_cases hin : i < n
      · exact ih i hin hio
      · have hi' : i = n := by omega
        subst hi'
        by_cases hl : listed.getD i true = true
        · simpa [hz, hio] using hl
        · exfalso
          have ho : ops[i]? = some ops[i] := Array.getElem?_eq_getElem hio
          have : i ∈ Region.ready md ops listed := mem_ready.2 ⟨by simpa using hl, _, ho, fun e he hb => by
            have hlt := (back i _ ho).1 e he hb
            exact ih e.on hlt (by omega)⟩
          rw [hr] at this
          cases this
  have fin : ∀ listed a w, Seen md ops V a0 listed a w → S listed w → (∀ i, i < ops.size → listed.getD i false = true) → Q .normal a w := fun listed a w hs hS hall => by
    have he : a = lays a0 ops.toList (ops.toList.map fun o => match o.dst with | some d => (a.tmps[d]?).getD undef | none => undef) := by
      refine lays_eq _ _ _ hB2 (by simp) hs.defs hs.tmps (fun t ht => hs.old t (fun i o ho hd => absurd hd (ht o (by simpa using Array.mem_of_getElem? ho)))) (fun i o d ho hd => ?_)
      have ho' : ops[i]? = some o := by simpa using ho
      obtain ⟨v, h1, _⟩ := hs.val i o d ho' (hall i (Array.getElem?_eq_some_iff.1 ho').1) hd
      rw [h1, List.getElem?_map, ho]
      simp [hd, h1]
    rw [he]
    refine hfin _ listed w (by simp) (fun i v hv => ?_) hall hS
    rw [List.getElem?_map] at hv
    cases ho : ops.toList[i]? with
    | none => rw [ho] at hv; cases hv
    | some o =>
      have ho' : ops[i]? = some o := by simpa using ho
      obtain ⟨d, hd, _⟩ := dsts_some hB2 o (List.mem_of_getElem? ho)
      obtain ⟨u, h1, h2⟩ := hs.val i o d ho' (hall i (Array.getElem?_eq_some_iff.1 ho').1) hd
      rw [ho] at hv
      simp only [Option.map_some, Option.some.injEq, hd, h1, Option.getD_some] at hv
      subst hv
      exact h2
  induction f with
  | zero =>
    intro listed a w hu hs hS
    have hz := unl_zero listed ops.size (by omega)
    have hall : ∀ i, i < ops.size → listed.getD i false = true := fun i hi => by simpa [hs.size, hi] using hz i hi
    refine ⟨List.eq_nil_iff_forall_not_mem.2 fun i hi => ?_, fin listed a w hs hS hall⟩
    obtain ⟨h0, o, ho, _⟩ := mem_ready.1 hi
    rw [hz i (Array.getElem?_eq_some_iff.1 ho).1] at h0
    cases h0
  | succ f ih =>
    intro listed a w hu hs hS
    refine ⟨fun hr => fin listed a w hs hS (fun i hi => full listed hs.size hr (i + 1) i (Nat.lt_succ_self _) hi), fun i hi => ?_⟩
    obtain ⟨hun, o, ho, hdep⟩ := mem_ready.1 hi
    have hio := (Array.getElem?_eq_some_iff.1 ho).1
    unfold wpOp
    simp only [ho]
    rw [if_pos (by unfold Region.wanted; rw [(back i o ho).2])]
    refine .inl ?_
    have h := hstep i o ho listed a w hs hS hun hdep
    obtain ⟨d, hd, hdm⟩ := dsts_some hB2 o (by simpa using Array.mem_of_getElem? ho)
    have key : ∀ v w', (V i v w' ∧ S (listed.setIfInBounds i true) w' ∧ ∀ j u, V j u w → V j u w') → wpAny P md ops Q f (listed.setIfInBounds i true) (a.put o.dst v) w' := fun v w' ⟨k1, k2, k3⟩ => by
      refine ih _ _ _ (by have := unl_set listed i hun ops.size hio; omega) ⟨by simp [hs.size], fun t ht => ?_, fun j oj dj hj hl hdj => ?_, by rw [put_tmps]; exact hs.tmps, ?_, fun j oj hj hl e he hb => ?_⟩ k2
      · have hit : o.dst ≠ some t := fun hh => by
          have := ht i o ho hh
          rw [show (listed.setIfInBounds i true).getD i false = true from by simp [hs.size, hio]] at this
          cases this
        rw [put_other _ _ _ _ hit]
        refine hs.old t (fun j oj hj hd' => ?_)
        have hij : i ≠ j := fun e => by
          subst e
          have : oj = o := Option.some.inj (hj.symm.trans ho)
          subst this
          exact hit hd'
        have := ht j oj hj hd'
        rwa [getD_set_ne false hij] at this
      · by_cases hij : i = j
        · subst hij
          have : oj = o := Option.some.inj (hj.symm.trans ho)
          subst this
          refine ⟨v, ?_, k1⟩
          rw [hdj]
          rw [hd] at hdj
          cases hdj
          simp [Act.put, hs.tmps, hdm]
        · rw [getD_set_ne false hij] at hl
          obtain ⟨u, h1, h2⟩ := hs.val j oj dj hj hl hdj
          refine ⟨u, ?_, k3 j u h2⟩
          rw [put_other _ _ _ _ (fun hh => dsts_two hB2 i j o oj (by simpa using ho) (by simpa using hj) hij (hh.trans hdj.symm))]
          exact h1
      · rw [← hs.defs, hd]
        rfl
      · by_cases hij : i = j
        · subst hij
          have : oj = o := Option.some.inj (hj.symm.trans ho)
          subst this
          exact getD_set_true (hdep e he hb)
        · rw [getD_set_ne false hij] at hl
          exact getD_set_true (hs.closed j oj hj hl e he hb)
    unfold Oper.wp
    generalize (execOp a.eval o).run P w = r at *
    cases r with
    | halt x w' => exact h.elim
    | ok n w' =>
      cases n with
      | value u => exact key u w' h
      | enter g args => exact Calls.mono h fun e w'' ⟨v, he, hk⟩ => by subst he; exact key v w'' hk
      | _ => exact h.elim

/-- The region, whatever the order. -/
theorem region_plan {id : Nat} {Q : Exit → Act → World → Prop} {a : Act} {w : World} {l : List Oper} (V : Nat → Value → World → Prop) (S : Array Bool → World → Prop) (hm : P.follows .mixedOrders = true) (hB : planB .any l.toArray a.tmps.size = true)
    (h0 : S (Array.replicate l.length false) w.drew)
    (hstep : ∀ (i : Nat) o, l.toArray[i]? = some o → ∀ listed a' w', Seen .any l.toArray V a listed a' w' → S listed w' → listed.getD i true = false → (∀ e ∈ o.after, Region.binds .any e = true → listed.getD e.on false = true) →
      planUpon P (fun v w'' => V i v w'' ∧ S (listed.setIfInBounds i true) w'' ∧ ∀ j u, V j u w' → V j u w'') ((execOp a'.eval o).run P w'))
    (hfin : ∀ (vs : List Value) listed w', vs.length = l.length → (∀ (i : Nat) v, vs[i]? = some v → V i v w') → (∀ i, i < l.length → listed.getD i false = true) → S listed w' → Q .normal (lays a l vs) w') :
    (Code.region id l.toArray true).wp P Q a w := by
  refine wp_region_any hm ?_
  have := plan_any (P := P) (md := .any) (Q := Q) hB hstep (fun vs listed w' h1 h2 h3 h4 => by
    have := hfin vs listed w' (by simpa using h1) h2 (by simpa using h3) h4
    simpa using this) l.length (Array.replicate l.length false) a w.drew (by have := unl_le (Array.replicate l.length false) l.toArray.size; simpa using this)
    ⟨by simp, fun t _ => rfl, fun i o d _ hl => (by rw [getD_replicate_false] at hl; cases hl), rfl, rfl, fun i o _ hl => (by rw [getD_replicate_false] at hl; cases hl)⟩ h0
  simpa using this
end
#print axioms region_plan
end Go.Proofs.YtncnildpbccpaaaGreatDoor

namespace Go.Proofs.YtncnildpbccpaaaGreatDoor
open Go.RowKit

theorem two_zero : two 0 = (⟨#[0, 0]⟩ : ByteArray) := by decide

theorem ofs_le (l : List ByteArray) : M.ofs l ≤ 65535 := by unfold M.ofs; omega

theorem two_be2 (n : Nat) : (⟨(addTo [] (be2 n)).toArray⟩ : ByteArray) = two n := by
  have e : UInt8.ofNat (n % 256) = UInt8.ofNat n := by
    apply UInt8.toNat_inj.1
    simp
  unfold two be2 addTo
  rw [e]
  rfl

/-- The check sum that a text has with noughts at k. -/
def csum (s : ByteArray) (k : Nat) : Nat := M.ofs [swap s k 0]

theorem csum_parts (s : ByteArray) (k : Nat) : M.ofs [s.extract 0 k, ⟨#[0, 0]⟩, s.extract (k + 2) s.size] = csum s k := by
  unfold csum swap
  rw [two_zero]
  simp [M.ofs, M.tot, ByteArray.data_append]

theorem csum_joined (s : ByteArray) (k : Nat) : M.ofs [s.extract 0 k ++ (⟨#[0, 0]⟩ : ByteArray) ++ s.extract (k + 2) s.size] = csum s k := by
  unfold csum swap
  rw [two_zero]

theorem fold_put (P Q : Nat) : M.fold (P + (65535 - M.fold (P + 0 + Q)) + Q) = 65535 := by
  have h := M.fold_le (P + 0 + Q)
  by_cases g : P + 0 + Q = 0
  · have : M.fold (P + 0 + Q) = 0 := by rw [g]; rfl
    rw [this]
    unfold M.fold
    rw [if_neg (by omega)]
    omega
  · have e : M.fold (P + 0 + Q) = (P + 0 + Q - 1) % 65535 + 1 := by unfold M.fold; rw [if_neg g]
    rw [e]
    unfold M.fold
    rw [if_neg (by omega)]
    omega

theorem put_is_good (s : ByteArray) (k : Nat) (he : k % 2 = 0) (h : k + 2 ≤ s.size) : M.ofs [swap s k (csum s k)] = 0 := by
  rw [ofs_one, acc_swap s k (csum s k) (ofs_le _) he h]
  unfold csum
  rw [ofs_one, acc_swap s k 0 (by omega) he h, fold_put]

theorem IntRow.one (n : Int) (w : World) : IntRow [n] w.heap.size (w.alloc (.cells #[.int .i64 n] 3)) :=
  ⟨_, heap_alloc_new w _, fun i hi => by
    match i, hi with
    | 0, _ => rfl⟩

theorem newCell (W : World) (cs : Array Value) (t : TypeId) (n i : Nat) (v : Value) (hn : n = W.heap.size) (hv : cs[i]? = some v) : (W.alloc (.cells cs t)).cell? ⟨n, i, none⟩ = some v := by
  subst hn
  rw [World.cell?_alloc_new]
  exact hv

theorem Wr.carry {base b : Nat} {l : List UInt8} {w w' : World} (h : Wr base b l w) (hb : Below w.heap.size w w') : Wr base b l w' := by
  obtain ⟨hlow, ao, cap, hcell, hbuf⟩ := h
  have hg : w.grownBy w' none := ⟨hb.os, hb.tape, hb.output, hb.size, fun k hk _ => hb.block k hk⟩
  exact ⟨hlow, ao, cap, (hb.block b (lt_of_block hcell)).trans hcell, World.ownsRow.kept hbuf hg (by cases Value.ownBlock (.slice ao l.length cap) <;> simp)⟩

set_option maxHeartbeats 400000 in
theorem good_one (A : ByteArray) (b : Nat) (w : World) (hb : b < w.heap.size) (h0 : w.cell? ⟨b, 0, none⟩ = some (.string A)) (hs : A.size ≤ 100000) (hg : M.ofs [A] = 0) :
    Calls Tryz.prog 64 #[.slice (some ⟨b, 0, none⟩) 1 1] w fun e w' => e = .returned (.bool true) ∧ Below w.heap.size w w' := by
  have Hg := Lib.hid hg
  clear hg
  go_enter Tryz.func64, Tryz.ntmps64
  go_wp2_with fail
  refine (of_one A b w hb h0 hs).mono ?_
  rintro e w1 ⟨rfl, hb1⟩
  rw [Hg.out]
  go_wp2
  go_ret
  exact ⟨rfl, hb1⟩

/-- Where a check sum can't be put. -/
def noPlace (s : ByteArray) (p : Int) : Prop := p < 0 ∨ p % 2 ≠ 0 ∨ (s.size : Int) - 2 < p

set_option maxHeartbeats 400000 in
theorem put_bad (s : ByteArray) (p : Int) (w : World) (hs : s.size ≤ 3000) (h : noPlace s p) :
    Calls Tryz.prog 21 #[.string s, .int .i64 p] w fun e w' => e = .returned (.tuple #[.string ⟨#[]⟩, .int .i64 1]) ∧ w = w' := by
  by_cases h0 : p < 0
  · clear h
    go_enter Tryz.func21, Tryz.ntmps21
    go_wp2
    go_ret2
    exact ⟨rfl, rfl⟩
  · obtain ⟨k, rfl⟩ := Int.eq_ofNat_of_zero_le (show 0 ≤ p by omega)
    by_cases h1 : k % 2 = 1
    · have hb : (((k : Int) % 2) != 0) = true := by rw [bne_iff_ne]; omega
      clear h
      go_enter Tryz.func21, Tryz.ntmps21
      go_wp2
      go_ret2
      exact ⟨rfl, rfl⟩
    · have hb : (((k : Int) % 2) != 0) = false := by rw [bne_eq_false_iff_eq]; omega
      have hc : (s.size : Int) - 2 < (k : Int) := by rcases h with h | h | h <;> omega
      clear h
      go_enter Tryz.func21, Tryz.ntmps21
      go_wp2
      go_ret2
      exact ⟨rfl, rfl⟩

set_option maxHeartbeats 2000000 in
set_option maxRecDepth 100000 in
theorem put_good (s : ByteArray) (k : Nat) (w : World) (hs : s.size ≤ 3000) (he : k % 2 = 0) (hk : k + 2 ≤ s.size) :
    Calls Tryz.prog 21 #[.string s, .int .i64 k] w fun e w' => e = .returned (.tuple #[.string (swap s k (csum s k)), .int .i64 0]) ∧ Below w.heap.size w w' := by
  have hb : (((k : Int) % 2) != 0) = false := by rw [bne_eq_false_iff_eq]; omega
  have Hsw := Lib.hid (show swap s k (csum s k) = s.extract 0 k ++ two (csum s k) ++ s.extract (k + 2) s.size from rfl)
  have Hcs := Lib.hid (csum_parts s k)
  have hcl : csum s k ≤ 65535 := ofs_le _
  generalize swap s k (csum s k) = t at *
  generalize csum s k = c at *
  have z1 : (s.extract 0 k).size ≤ 3000 := by rw [ByteArray.size_extract]; omega
  have z2 : (s.extract (k + 2) s.size).size ≤ 3000 := by rw [ByteArray.size_extract]; omega
  have k1 : ¬ (s.size : Int) - 2 < (k : Int) := by omega
  go_enter Tryz.func21, Tryz.ntmps21
  go_wp2
  have j1 : (k : Int) + 2 ≤ (s.size : Int) := by omega
  have j2 : 0 ≤ (k : Int) + 2 := by omega
  have j3 : ((k : Int) + 2).toNat = k + 2 := by omega
  have j4 : IntKind.i64.wrap ((k : Int) + 2) = (k : Int) + 2 := IntWalk.i64_in _ (by omega)
  have j5 : (k : Int) ≤ (s.size : Int) := by omega
  have j6 : k ≤ s.size := by omega
  go_quiet (fail)
  generalize s.extract 0 k = A at *
  generalize s.extract (k + 2) s.size = B at *
  go_wp2_with fail
  refine (of_three A ⟨#[0, 0]⟩ B _ _ (by simp) (newCell _ _ _ _ _ _ (by simp) rfl) (newCell _ _ _ _ _ _ (by simp) rfl) (newCell _ _ _ _ _ _ (by simp) rfl) (by show A.size + 2 + B.size ≤ 100000; omega)).mono ?_
  rintro e w1 ⟨rfl, hb1⟩
  have hwr : Wr w.heap.size w.heap.size [] w1 := ((Wr.new (w.drewN nq)).alloc _).carry hb1
  have hz1 : w.heap.size + 2 ≤ w1.heap.size := by have := hb1.size; simp at this; omega
  have hbel : Below w.heap.size w w1 := ((((below_drewN (Below.refl _ w) nq)).alloc (Nat.le_refl _) _).alloc (by simp) _).trans (hb1.mono (by simp; omega))
  clear hb1
  rw [Hcs.out]
  go_wp2_with fail
  refine (Short_any w.heap.size w.heap.size _ 1 [] [(c : Int)] _ (hwr.alloc _) (by simp) (IntRow.one _ w1) (by omega) (by simp)).mono ?_
  rintro e w2 ⟨rfl, haf, hkp⟩
  have hpt : puts be2 65535 [] [(c : Int)] = some (addTo [] (be2 c)) := by simp [puts]; omega
  rw [hpt] at haf
  clear hpt
  have hwr2 := haf.1
  clear haf
  go_wp2_with fail
  refine (Done_any w.heap.size w.heap.size _ w2 hwr2 (by unfold addTo; simp [be2])).mono ?_
  rintro e w3 ⟨rfl, rfl⟩
  rw [two_be2]
  have z3 := two_size c
  go_wp2
  go_ret2
  exact ⟨by rw [Hsw.out]; rfl, (hbel.alloc (by omega) _).trans hkp.below⟩

/-- The document's own text with its check sum. -/
theorem refput_any (s : ByteArray) (k : Nat) (w : World) (hs : s.size ≤ 3000) (hk : k + 2 ≤ s.size) :
    Calls Tryz.prog 29 #[.string s, .int .i64 k] w fun e w' => e = .returned (.string (swap s k (csum s k))) ∧ Below w.heap.size w w' := by
  have Hsw := Lib.hid (show swap s k (csum s k) = s.extract 0 k ++ two (csum s k) ++ s.extract (k + 2) s.size from rfl)
  have Hcs := Lib.hid (csum_joined s k)
  have hcl : csum s k ≤ 65535 := ofs_le _
  generalize swap s k (csum s k) = t at *
  generalize csum s k = c at *
  have q3 : (s.extract 0 k).size = k := by rw [ByteArray.size_extract]; omega
  have q5 : (s.extract (k + 2) s.size).size = s.size - (k + 2) := by rw [ByteArray.size_extract]; omega
  have q4 : (s.extract 0 k ++ (⟨#[0, 0]⟩ : ByteArray)).size = k + 2 := by rw [ByteArray.size_append, q3]; rfl
  have q8 : (s.extract 0 k ++ two c).size = k + 2 := by rw [ByteArray.size_append, q3, two_size]
  have q9 : (s.extract 0 k ++ (⟨#[0, 0]⟩ : ByteArray) ++ s.extract (k + 2) s.size).size ≤ 100000 := by rw [ByteArray.size_append, q4, q5]; omega
  have Q9 := Lib.hid q9
  clear q9
  have z1 := two_size c
  have z2 : ByteArray.size (⟨#[0, 0]⟩ : ByteArray) = 2 := rfl
  have q1 : (k : Int) ≤ (s.size : Int) := by omega
  have q2 : k ≤ s.size := by omega
  have q6 : (9223372036854775807 < k + 2) = False := by simp; omega
  have q7 : (9223372036854775807 < s.size) = False := by simp; omega
  have j1 : (k : Int) + 2 ≤ (s.size : Int) := by omega
  have j2 : 0 ≤ (k : Int) + 2 := by omega
  have j3 : ((k : Int) + 2).toNat = k + 2 := by omega
  have j4 : IntKind.i64.wrap ((k : Int) + 2) = (k : Int) + 2 := IntWalk.i64_in _ (by omega)
  go_enter Tryz.func29, Tryz.ntmps29
  go_wp2
  go_region_held3 (fun _ => True) (exact trivial) (first
    | ((go_at_call 41; (with_reducible refine (refof_any _ _ Q9.out).mono ?_); rintro e w1 ⟨rfl, rfl⟩; rw [Hcs.out]))
    | ((go_at_call 27; (with_reducible refine (short_any c _ hcl).mono ?_); rintro e w1 ⟨rfl, hb⟩)))
  go_wp2
  go_ret
  exact ⟨by rw [Hsw.out]; rfl, ((Below.refl _ _).drew).trans (by assumption)⟩
#print axioms put_good
#print axioms refput_any
end Go.Proofs.YtncnildpbccpaaaGreatDoor

namespace Go.Proofs.YtncnildpbccpaaaGreatDoor
open Go.RowKit

/-- What an operation's value is: one value, or a new row. -/
inductive Spec where
  | val (x : Value)
  | row (X : Array Value) (T : TypeId)

def Spec.ok (b : Nat) : Spec → Value → World → Prop
  | .val x, v, _ => v = x
  | .row X T, v, w => ∃ r, r ≠ b ∧ v = .slice (some ⟨r, 0, none⟩) X.size X.size ∧ w.heap[r]? = some (.cells X T (0, 0))

def VS (b : Nat) (sp : List Spec) (i : Nat) (v : Value) (w : World) : Prop :=
  match sp[i]? with
  | some s => s.ok b v w
  | none => True

/-- What is no row of bytes and not b stays. -/
def Spare (b : Nat) (w w' : World) : Prop := ∀ k cs ty, w.heap[k]? = some (.cells cs ty (0, 0)) → k ≠ b → ty ≠ 5 → w'.heap[k]? = some (.cells cs ty (0, 0))
theorem Spare.refl (b : Nat) (w : World) : Spare b w w := fun _ _ _ h _ _ => h
theorem Spare.of_below {b : Nat} {w w' : World} (h : Below w.heap.size w w') : Spare b w w' := fun k _ _ hk _ _ => (h.block k (lt_of_block hk)).trans hk
theorem Spare.alloc (b : Nat) (w : World) (o : Obj) : Spare b w (w.alloc o) := fun k _ _ hk _ _ => (Below.heap_alloc w o k (lt_of_block hk)).trans hk

def rowsB (sp : List Spec) : Bool := sp.all fun
  | .val _ => true
  | .row _ T => T != 5

theorem VS.keep {b : Nat} {sp : List Spec} {w w' : World} (hB : rowsB sp = true) (h : Spare b w w') : ∀ j u, VS b sp j u w → VS b sp j u w' := by
  intro j u hu
  unfold VS at *
  cases hs : sp[j]? with
  | none => trivial
  | some s =>
    rw [hs] at hu
    cases s with
    | val x => exact hu
    | row X T =>
      obtain ⟨r, h1, h2, h3⟩ := hu
      have := List.all_eq_true.1 hB _ (List.mem_of_getElem? hs)
      exact ⟨r, h1, h2, h r X T h3 h1 (by simpa using this)⟩

/-- What has been written, by which calls have come up. -/
def said (m : List UInt8) (calls : List (Nat × List UInt8)) (listed : Array Bool) : List UInt8 := m ++ (calls.map fun c => if listed.getD c.1 false then c.2 else []).flatten

theorem said_other (m : List UInt8) (calls : List (Nat × List UInt8)) (listed : Array Bool) (i : Nat) (h : (calls.all fun c => c.1 != i) = true) : said m calls (listed.setIfInBounds i true) = said m calls listed := by
  unfold said
  congr 2
  refine List.map_congr_left fun c hc => ?_
  have := List.all_eq_true.1 h c hc
  rw [getD_set_ne false (fun e => by simp [e] at this)]

theorem said_none (post : List (Nat × List UInt8)) (listed : Array Bool) (h : ∀ c ∈ post, listed.getD c.1 false = false) : (post.map fun c => if listed.getD c.1 false then c.2 else []).flatten = [] := by
  induction post with
  | nil => rfl
  | cons c r ih =>
    rw [List.map_cons, List.flatten_cons, ih (fun c' hc' => h c' (List.mem_cons_of_mem _ hc')), h c List.mem_cons_self]
    rfl

theorem said_call (m : List UInt8) (pre post : List (Nat × List UInt8)) (i : Nat) (B : List UInt8) (listed : Array Bool) (hi : i < listed.size) (hun : listed.getD i true = false) (hpre : (pre.all fun c => c.1 != i) = true) (hpost : (post.all fun c => c.1 != i) = true) (hno : ∀ c ∈ post, listed.getD c.1 false = false) :
    said m (pre ++ (i, B) :: post) (listed.setIfInBounds i true) = said m (pre ++ (i, B) :: post) listed ++ B := by
  have h1 : listed.getD i false = false := getD_both hun
  have h2 : (listed.setIfInBounds i true).getD i false = true := by simp [hi]
  unfold said
  have e1 : (pre.map fun c => if (listed.setIfInBounds i true).getD c.1 false then c.2 else []) = (pre.map fun c => if listed.getD c.1 false then c.2 else []) := List.map_congr_left fun c hc => by
    have := List.all_eq_true.1 hpre c hc
    rw [getD_set_ne false (fun e => by simp [e] at this)]
  have hno' : ∀ c ∈ post, (listed.setIfInBounds i true).getD c.1 false = false := fun c hc => by
    have := List.all_eq_true.1 hpost c hc
    rw [getD_set_ne false (fun e => by simp [e] at this)]
    exact hno c hc
  rw [List.map_append, List.map_append, List.map_cons, List.map_cons, List.flatten_append, List.flatten_append, List.flatten_cons, List.flatten_cons, said_none post _ hno', said_none post _ hno, e1, h2, h1]
  simp

theorem said_zero (m : List UInt8) (calls : List (Nat × List UInt8)) (n : Nat) : said m calls (Array.replicate n false) = m := by
  unfold said
  rw [said_none calls _ (fun c _ => getD_replicate_false _ _)]
  simp

theorem said_all (m : List UInt8) (calls : List (Nat × List UInt8)) (listed : Array Bool) (h : ∀ c ∈ calls, listed.getD c.1 false = true) : said m calls listed = m ++ (calls.map (·.2)).flatten := by
  unfold said
  congr 2
  exact List.map_congr_left fun c hc => by rw [h c hc]; rfl

/-- The world: what lies below, the packet's block, the writer. -/
structure ChS (base : Nat) (wE : World) (N : Nat) (X : Array Value) (T : TypeId) (b : Nat) (m : List UInt8) (calls : List (Nat × List UInt8)) (listed : Array Bool) (w : World) : Prop where
  bel : Below base wE w
  pk : w.heap[N]? = some (.cells X T (0, 0))
  wr : Wr base b (said m calls listed) w

section
variable {base : Nat} {wE : World} {N : Nat} {X : Array Value} {T : TypeId} {b : Nat} {m : List UInt8} {calls : List (Nat × List UInt8)} {listed : Array Bool} {w w' : World}
theorem ChS.calm (h : ChS base wE N X T b m calls listed w) (i : Nat) (hi : (calls.all fun c => c.1 != i) = true) : ChS base wE N X T b m calls (listed.setIfInBounds i true) w :=
  ⟨h.bel, h.pk, by rw [said_other _ _ _ _ hi]; exact h.wr⟩
theorem ChS.below (h : ChS base wE N X T b m calls listed w) (hbase : base ≤ wE.heap.size) (hb : Below w.heap.size w w') (i : Nat) (hi : (calls.all fun c => c.1 != i) = true) : ChS base wE N X T b m calls (listed.setIfInBounds i true) w' :=
  ⟨h.bel.trans (hb.mono (Nat.le_trans hbase h.bel.size)), (hb.block N (lt_of_block h.pk)).trans h.pk, by rw [said_other _ _ _ _ hi]; exact h.wr.carry hb⟩
theorem ChS.call (h : ChS base wE N X T b m calls listed w) (hNb : N ≠ b) (hT : T ≠ 5) (hk : Kp base b w w') (i : Nat) (hw : Wr base b (said m calls (listed.setIfInBounds i true)) w') : ChS base wE N X T b m calls (listed.setIfInBounds i true) w' :=
  ⟨h.bel.trans hk.below, hk.spare N X T h.pk hNb hT, hw⟩
theorem ChS.lt (h : ChS base wE N X T b m calls listed w) : b < w.heap.size := h.wr.lt
end

/-- One step after the other. -/
def AllSteps (K : Nat → Oper → Prop) : Nat → List Oper → Prop
  | _, [] => True
  | k, o :: l => K k o ∧ AllSteps K (k + 1) l
theorem AllSteps.get {K : Nat → Oper → Prop} : ∀ {k : Nat} {l : List Oper}, AllSteps K k l → ∀ (i : Nat) o, l[i]? = some o → K (k + i) o
  | _, [], _, i, o, ho => by simp at ho
  | k, o' :: l, h, 0, o, ho => by
    simp only [List.getElem?_cons_zero, Option.some.injEq] at ho
    subst ho
    exact h.1
  | k, o' :: l, h, i + 1, o, ho => by
    have := AllSteps.get h.2 i o (by simpa using ho)
    rwa [show k + 1 + i = k + (i + 1) by omega] at this

theorem plan_val {P : Program} {K : Value → World → Prop} {r : Result Next} (v : Value) (w' : World) (h : r = .ok (.value v) w') (hK : K v w') : planUpon P K r := by rw [h]; exact hK
theorem plan_call {P : Program} {K : Value → World → Prop} {r : Result Next} (f : FuncId) (args : Array Value) (w' : World) (h : r = .ok (.enter f args) w') (hK : Calls P f args w' (fun e w'' => ∃ v, e = .returned v ∧ K v w'')) : planUpon P K r := by rw [h]; exact hK

theorem Seen.was' {md : Region.Mode} {ops : Array Oper} {V : Nat → Value → World → Prop} {a0 a : Act} {listed : Array Bool} {w : World} (h : Seen md ops V a0 listed a w) (t : Nat) (ht : (ops.toList.all fun o => o.dst != some t) = true) : a.eval (.tmp t) = a0.eval (.tmp t) :=
  h.was t fun i o ho => by simpa using List.all_eq_true.1 ht o (by simpa using Array.mem_of_getElem? ho)

theorem Seen.later {ops : Array Oper} {V : Nat → Value → World → Prop} {a0 a : Act} {listed : Array Bool} {w : World} (h : Seen .any ops V a0 listed a w) (i k : Nat) (hun : listed.getD i true = false) (ok : Oper) (hk : ops[k]? = some ok) (g : Ground) (hg : ⟨i, g⟩ ∈ ok.after) (hb : Region.binds .any ⟨i, g⟩ = true) : listed.getD k true = false := by
  cases hl : listed.getD k true with
  | false => rfl
  | true =>
    have hks : k < listed.size := by rw [h.size]; exact (Array.getElem?_eq_some_iff.1 hk).1
    have h1 : listed.getD k false = true := by simpa [hks] using hl
    have h2 := h.closed k ok hk h1 _ hg hb
    rw [getD_both hun] at h2
    cases h2

/-- A writer's calls, of rows that hold. -/
theorem byte_row (base b : Nat) (l : List UInt8) (zs : List Int) (B : List UInt8) (v : Value) (X : Array Value) (w : World) (h : Wr base b l w) (hl : l.length ≤ 10000) (hz : zs.length ≤ 1000) (hX : X = (zs.map (.int .i64 ·)).toArray) (hv : (Spec.row X 3).ok b v w)
    (hp : puts be1 255 l zs = some (l ++ B)) :
    Calls Tryz.prog 15 #[.pointer (some ⟨b, 0, none⟩), v] w fun e w' => e = .returned (.pointer (some ⟨b, 0, none⟩)) ∧ Wr base b (l ++ B) w' ∧ Kp base b w w' := by
  obtain ⟨r, hr, rfl, hrow⟩ := hv
  have hs : X.size = zs.length := by rw [hX]; simp
  rw [hs]
  refine (Byte_any base b r zs.length l zs w h (by omega) ⟨X, hrow, fun i hi => by rw [hX]; simp [hi]⟩ hr hz).mono ?_
  rintro e w' ⟨he, ha, hk⟩
  rw [hp] at ha
  exact ⟨he, ha.1, hk⟩
theorem short_row (base b : Nat) (l : List UInt8) (zs : List Int) (B : List UInt8) (v : Value) (X : Array Value) (w : World) (h : Wr base b l w) (hl : l.length ≤ 10000) (hz : zs.length ≤ 1000) (hX : X = (zs.map (.int .i64 ·)).toArray) (hv : (Spec.row X 3).ok b v w)
    (hp : puts be2 65535 l zs = some (l ++ B)) :
    Calls Tryz.prog 16 #[.pointer (some ⟨b, 0, none⟩), v] w fun e w' => e = .returned (.pointer (some ⟨b, 0, none⟩)) ∧ Wr base b (l ++ B) w' ∧ Kp base b w w' := by
  obtain ⟨r, hr, rfl, hrow⟩ := hv
  have hs : X.size = zs.length := by rw [hX]; simp
  rw [hs]
  refine (Short_any base b r zs.length l zs w h (by omega) ⟨X, hrow, fun i hi => by rw [hX]; simp [hi]⟩ hr hz).mono ?_
  rintro e w' ⟨he, ha, hk⟩
  rw [hp] at ha
  exact ⟨he, ha.1, hk⟩
theorem word_row (base b : Nat) (l : List UInt8) (ns : List Nat) (B : List UInt8) (v : Value) (X : Array Value) (w : World) (h : Wr base b l w) (hl : l.length ≤ 10000) (hz : ns.length ≤ 1000) (hn : ∀ n ∈ ns, n < 4294967296) (hX : X = (ns.map fun (n : Nat) => Value.int .u32 (n : Int)).toArray) (hv : (Spec.row X 22).ok b v w)
    (hp : putsW l ns = l ++ B) :
    Calls Tryz.prog 18 #[.pointer (some ⟨b, 0, none⟩), v] w fun e w' => e = .returned (.pointer (some ⟨b, 0, none⟩)) ∧ Wr base b (l ++ B) w' ∧ Kp base b w w' := by
  obtain ⟨r, hr, rfl, hrow⟩ := hv
  have hs : X.size = ns.length := by rw [hX]; simp
  rw [hs]
  refine (Word_any base b r ns.length l ns w h (by omega) ⟨X, hrow, fun i hi => ⟨by rw [hX]; simp [hi], ?_⟩⟩ hr hz).mono ?_
  · rw [List.getD_eq_getElem?_getD, List.getElem?_eq_getElem hi]
    exact hn _ (List.getElem_mem hi)
  · rintro e w' ⟨he, ha, hk⟩
    rw [hp] at ha
    exact ⟨he, ha, hk⟩
theorem text_row (base b : Nat) (l : List UInt8) (s : ByteArray) (v : Value) (X : Array Value) (w : World) (h : Wr base b l w) (hl : l.length ≤ 10000) (hs50 : s.size ≤ 50000) (hX : X = #[.string s]) (hv : (Spec.row X 9).ok b v w) :
    Calls Tryz.prog 19 #[.pointer (some ⟨b, 0, none⟩), v] w fun e w' => e = .returned (.pointer (some ⟨b, 0, none⟩)) ∧ Wr base b (l ++ s.data.toList) w' ∧ Kp base b w w' := by
  obtain ⟨r, hr, rfl, hrow⟩ := hv
  subst hX
  exact text_put base b r l s w h hl hs50 ⟨_, hrow, fun i hi => by
    match i, hi with
    | 0, _ => exact ⟨rfl, by show s.size ≤ 100000; omega⟩⟩ hr

theorem said_le (m : List UInt8) (calls : List (Nat × List UInt8)) (listed : Array Bool) : (said m calls listed).length ≤ m.length + (calls.map fun c => c.2.length).sum := by
  unfold said
  rw [List.length_append]
  refine Nat.add_le_add_left ?_ _
  induction calls with
  | nil => exact Nat.le_refl _
  | cons c r ih =>
    simp only [List.map_cons, List.flatten_cons, List.length_append, List.sum_cons]
    refine Nat.add_le_add ?_ ih
    split <;> simp

theorem puts_all (be : Nat → List UInt8) (most c : Nat) (hc : ∀ n, (be n).length = c) : ∀ (ns : List Nat) (l : List UInt8), (∀ n ∈ ns, n ≤ most) → l.length + c * ns.length ≤ 65536 → puts be most l (ns.map fun (n : Nat) => (n : Int)) = some (l ++ ns.flatMap be)
  | [], l, _, _ => by simp [puts]
  | n :: r, l, h, hl => by
    have hn := h n List.mem_cons_self
    simp only [List.length_cons, Nat.mul_add] at hl
    simp only [List.map_cons, puts]
    rw [if_pos (by omega), addTo_small _ _ (by simp [hc]; omega), puts_all be most c hc r _ (fun n' h' => h n' (List.mem_cons_of_mem _ h')) (by simp [hc]; omega)]
    simp
theorem putsW_all : ∀ (ns : List Nat) (l : List UInt8), l.length + 4 * ns.length ≤ 65536 → putsW l ns = l ++ ns.flatMap word
  | [], l, _ => by simp [putsW]
  | n :: r, l, hl => by
    simp only [List.length_cons, Nat.mul_add] at hl
    have hw : (word n).length = 4 := rfl
    simp only [putsW]
    rw [addTo_small _ _ (by omega), putsW_all r _ (by rw [List.length_append]; omega)]
    simp

/-- The region by a plan, its steps one by one. -/
theorem region_plan' {P : Program} {id : Nat} {Q : Exit → Act → World → Prop} {a : Act} {w : World} {l : List Oper} (V : Nat → Value → World → Prop) (S : Array Bool → World → Prop) (hm : P.follows .mixedOrders = true) (hB : planB .any l.toArray a.tmps.size = true)
    (h0 : S (Array.replicate l.length false) w.drew)
    (hstep : AllSteps (fun i o => ∀ listed a' w', Seen .any l.toArray V a listed a' w' → S listed w' → listed.getD i true = false → (∀ e ∈ o.after, Region.binds .any e = true → listed.getD e.on false = true) →
      planUpon P (fun v w'' => V i v w'' ∧ S (listed.setIfInBounds i true) w'' ∧ ∀ j u, V j u w' → V j u w'') ((execOp a'.eval o).run P w')) 0 l)
    (hfin : ∀ (vs : List Value) listed w', vs.length = l.length → (∀ (i : Nat) v, vs[i]? = some v → V i v w') → (∀ i, i < l.length → listed.getD i false = true) → S listed w' → Q .normal (lays a l vs) w') :
    (Code.region id l.toArray true).wp P Q a w :=
  region_plan V S hm hB h0 (fun i o ho => by
    have := AllSteps.get hstep i o (by simpa using ho)
    simpa using this) hfin
#print axioms text_row
#print axioms region_plan'
end Go.Proofs.YtncnildpbccpaaaGreatDoor

