/- The walk of AddrPrefixTexts. -/
import Derived.Test.YtlnmpibhjpedcaaDoorAddrPMath
namespace Go.Proofs.YtlnmpibhjpedcaaDoor
open Go.RowKit

set_option maxHeartbeats 400000 in
theorem ptexts_long (p : Nat) (b : Int) (s : ByteArray) (w : World) (L : Laid w) (hs : 60 < s.size) :
    Calls Tryd.prog 5 #[.agg #[.int .u32 p, .int .i64 b], .string s] w fun e w' => e = .returned (.bool true) ∧ Below w.heap.size w w' := by
  have HL := Lib.hid L
  clear L
  have h0 : (60 : Int) < (s.size : Int) := by omega
  have k0 : Below w.heap.size w (w.alloc (.cells #[.int .u32 p, .int .i64 b] 30)) := (Below.refl _ _).alloc (Nat.le_refl _) _
  have K0 := Lib.hid k0
  clear k0
  go_enter Tryd.func5, Tryd.ntmps5
  go_wp2_with fail
  refine (awake_any _ (HL.out.below HL.out.size K0.out K0.out.size)).mono ?_
  rintro e w1 ⟨rfl, hb⟩
  go_wp2
  go_ret
  exact ⟨rfl, K0.out.trans (hb.mono K0.out.size)⟩

set_option maxRecDepth 8000 in
set_option maxHeartbeats 1000000 in
theorem ptexts_wrong (p : Nat) (b : Int) (s : ByteArray) (w : World) (hp : p < 4294967296) (L : Laid w) (hs : ¬ 60 < s.size) (hr : A.right p b = false) :
    Calls Tryd.prog 5 #[.agg #[.int .u32 p, .int .i64 b], .string s] w fun e w' => e = .returned (.bool true) ∧ Below w.heap.size w w' := by
  have HL := Lib.hid L
  have Hp := Lib.hid hp
  have Hs := Lib.hid hs
  have Hr := Lib.hid hr
  have h0 : ¬ (60 : Int) < (s.size : Int) := by omega
  obtain ⟨c, d, is, hc⟩ : ∃ (c d : Nat) (is : Bool), A.prefixIs s = #[.agg #[.int .u32 c, .int .i64 d], .bool is] := by
    unfold A.prefixIs
    cases A.prefix s with
    | none => exact ⟨0, 0, false, rfl⟩
    | some x => exact ⟨x.1, x.2, true, rfl⟩
  have Hc := Lib.hid hc
  have hI := PK.new (w := w) (w1 := w) (T := p) (C := b) (Below.refl _ _)
  clear L hp hs hr hc
  go_enter Tryd.func5, Tryd.ntmps5
  go_wp2_with fail
  refine (ptext_wrong p b _ Hp.out Hr.out).mono ?_
  rintro e w1 ⟨rfl, hb⟩
  generalize w.alloc (.cells #[.int .u32 p, .int .i64 b] 30) = v0 at *
  have hI := hI.step hb
  clear hb
  go_wp2_with fail
  refine (prefix_any ⟨#[]⟩ _ (by decide) (HL.out.below HL.out.size hI.bel hI.bel.size)).mono ?_
  rintro e w2 ⟨rfl, hb⟩
  rw [prefix_empty]
  have hI := hI.step hb
  clear hb
  go_wp2_with fail
  refine (prefix_any s _ (by have := Hs.out; omega) ?_).mono ?_
  · have k := hI.bel.alloc hI.bel.size (.cells #[.int .u32 0, .int .i64 0] 30)
    exact HL.out.below HL.out.size k k.size
  rintro e w3 ⟨rfl, hb⟩
  rw [Hc.out]
  have hI := (hI.alloc (.cells #[.int .u32 0, .int .i64 0] 30)).step hb
  clear hb
  have hI := hI.alloc (.cells #[.int .u32 c, .int .i64 d] 30)
  have q0 := hI.c0
  have q1 := hI.c1
  go_wp2_with fail
  refine (refright_any p b _ Hp.out).mono ?_
  rintro e w4 ⟨rfl, hb⟩
  rw [Hr.out]
  have hI := hI.step hb
  clear hb q0 q1
  go_wp2_with fail
  refine (awake_any _ (HL.out.below HL.out.size hI.bel hI.bel.size)).mono ?_
  rintro e w5 ⟨rfl, hb⟩
  have hI := hI.step hb
  clear hb
  go_wp2
  go_ret
  exact ⟨rfl, hI.bel⟩

set_option maxRecDepth 8000 in
set_option maxHeartbeats 1000000 in
theorem ptexts_none (p b : Nat) (s : ByteArray) (w : World) (hp : p < 4294967296) (L : Laid w) (hs : ¬ 60 < s.size) (hr : A.right p b = true) (hn : A.prefix s = none) :
    Calls Tryd.prog 5 #[.agg #[.int .u32 p, .int .i64 b], .string s] w fun e w' => e = .returned (.bool true) ∧ Below w.heap.size w w' := by
  have HL := Lib.hid L
  have Hp := Lib.hid hp
  have Hs := Lib.hid hs
  have Hr := Lib.hid hr
  have h0 : ¬ (60 : Int) < (s.size : Int) := by omega
  have hb32 : b ≤ 32 := by have := right_bits hr; omega
  have Hb := Lib.hid hb32
  have P1 := Lib.hid (show A.prefixIs (A.ptext p b) = #[.agg #[.int .u32 p, .int .i64 b], .bool true] by unfold A.prefixIs; rw [prefix_ptext p b hp hb32 hr])
  have Hc := Lib.hid (show A.prefixIs s = #[.agg #[.int .u32 0, .int .i64 0], .bool false] by unfold A.prefixIs; rw [hn])
  have Z := Lib.hid (show (A.ptext p b).size ≤ 20 by
    have z1 := text_size p hp
    have z2 : (A.told b).size ≤ 3 := told_len b (by omega)
    have y : ByteArray.size (⟨#[47]⟩ : ByteArray) = 1 := rfl
    unfold A.ptext
    rw [ByteArray.size_append, ByteArray.size_append, y]; omega)
  generalize hT : A.ptext p b = T at *
  have HT := Lib.hid hT
  have hI := PK.new (w := w) (w1 := w) (T := p) (C := b) (Below.refl _ _)
  clear L hp hs hr hn hT hb32
  go_enter Tryd.func5, Tryd.ntmps5
  go_wp2_with fail
  refine (ptext_right p b _ Hp.out ?_ Hb.out Hr.out).mono ?_
  · exact HL.out.below HL.out.size hI.bel hI.bel.size
  rintro e w1 ⟨rfl, hb⟩
  rw [HT.out]
  generalize w.alloc (.cells #[.int .u32 p, .int .i64 b] 30) = v0 at *
  have hI := hI.step hb
  clear hb
  go_wp2_with fail
  refine (prefix_any T _ (by have := Z.out; omega) (HL.out.below HL.out.size hI.bel hI.bel.size)).mono ?_
  rintro e w2 ⟨rfl, hb⟩
  rw [P1.out]
  have hI := hI.step hb
  clear hb
  go_wp2_with fail
  have hQ := PK.new (T := p) (C := b) hI.bel
  have hI := hI.alloc (.cells #[.int .u32 p, .int .i64 b] 30)
  refine (prefix_any s _ (by have := Hs.out; omega) (HL.out.below HL.out.size hI.bel hI.bel.size)).mono ?_
  rintro e w3 ⟨rfl, hb⟩
  rw [Hc.out]
  generalize w2.alloc (.cells #[.int .u32 p, .int .i64 b] 30) = v2 at *
  generalize w2.heap.size = N2 at *
  have hI := hI.step hb
  have hQ := hQ.step hb
  clear hb
  have hC := PK.new (T := 0) (C := 0) hI.bel
  have hI := hI.alloc (.cells #[.int .u32 0, .int .i64 0] 30)
  have hQ := hQ.alloc (.cells #[.int .u32 0, .int .i64 0] 30)
  have q0 := hI.c0
  have q1 := hI.c1
  go_wp2_with fail
  refine (refright_any p b _ Hp.out).mono ?_
  rintro e w4 ⟨rfl, hb⟩
  rw [Hr.out]
  generalize w3.alloc (.cells #[.int .u32 0, .int .i64 0] 30) = v3 at *
  generalize w3.heap.size = N3 at *
  have hI := hI.step hb
  have hQ := hQ.step hb
  have hC := hC.step hb
  clear hb q0 q1
  have q0 := hI.c0
  have q1 := hI.c1
  have q2 := hQ.c0
  have q3 := hQ.c1
  have q4 := hC.c0
  have q5 := hC.c1
  go_wp2_with fail
  refine (refptext_any p b _ Hp.out Hb.out).mono ?_
  rintro e w5 ⟨rfl, hb⟩
  rw [HT.out]
  have hI := hI.step hb
  have hQ := hQ.step hb
  have hC := hC.step hb
  clear hb q0 q1 q2 q3 q4 q5
  have q0 := hI.c0
  have q1 := hI.c1
  have q2 := hQ.c0
  have q3 := hQ.c1
  have q4 := hC.c0
  have q5 := hC.c1
  go_wp2_with fail
  refine (awake_any _ (HL.out.below HL.out.size hI.bel hI.bel.size)).mono ?_
  rintro e w9 ⟨rfl, hb⟩
  have hI := hI.step hb
  clear hb q0 q1 q2 q3 q4 q5
  go_wp2
  go_ret
  exact ⟨rfl, hI.bel⟩

set_option maxRecDepth 8000 in
set_option maxHeartbeats 1000000 in
theorem ptexts_some (p b : Nat) (s : ByteArray) (w : World) (hp : p < 4294967296) (L : Laid w) (hs : ¬ 60 < s.size) (hr : A.right p b = true) (c d : Nat) (hn : A.prefix s = some (c, d)) :
    Calls Tryd.prog 5 #[.agg #[.int .u32 p, .int .i64 b], .string s] w fun e w' => e = .returned (.bool true) ∧ Below w.heap.size w w' := by
  have HL := Lib.hid L
  have Hp := Lib.hid hp
  have Hs := Lib.hid hs
  have Hr := Lib.hid hr
  have h0 : ¬ (60 : Int) < (s.size : Int) := by omega
  have hb32 : b ≤ 32 := by have := right_bits hr; omega
  have Hb := Lib.hid hb32
  have P1 := Lib.hid (show A.prefixIs (A.ptext p b) = #[.agg #[.int .u32 p, .int .i64 b], .bool true] by unfold A.prefixIs; rw [prefix_ptext p b hp hb32 hr])
  have Hc := Lib.hid (show A.prefixIs s = #[.agg #[.int .u32 c, .int .i64 d], .bool true] by unfold A.prefixIs; rw [hn])
  obtain ⟨t1, t2, t3, t4⟩ := ptext_prefix hn
  have U1 := Lib.hid t1
  have U2 := Lib.hid t2
  have U3 := Lib.hid t3
  have U4 := Lib.hid t4
  clear t1 t2 t3 t4
  have Z := Lib.hid (show (A.ptext p b).size ≤ 20 by
    have z1 := text_size p hp
    have z2 : (A.told b).size ≤ 3 := told_len b (by omega)
    have y : ByteArray.size (⟨#[47]⟩ : ByteArray) = 1 := rfl
    unfold A.ptext
    rw [ByteArray.size_append, ByteArray.size_append, y]; omega)
  generalize hT : A.ptext p b = T at *
  have HT := Lib.hid hT
  have hI := PK.new (w := w) (w1 := w) (T := p) (C := b) (Below.refl _ _)
  clear L hp hs hr hn hT hb32
  go_enter Tryd.func5, Tryd.ntmps5
  go_wp2_with fail
  refine (ptext_right p b _ Hp.out ?_ Hb.out Hr.out).mono ?_
  · exact HL.out.below HL.out.size hI.bel hI.bel.size
  rintro e w1 ⟨rfl, hb⟩
  rw [HT.out]
  generalize w.alloc (.cells #[.int .u32 p, .int .i64 b] 30) = v0 at *
  have hI := hI.step hb
  clear hb
  go_wp2_with fail
  refine (prefix_any T _ (by have := Z.out; omega) (HL.out.below HL.out.size hI.bel hI.bel.size)).mono ?_
  rintro e w2 ⟨rfl, hb⟩
  rw [P1.out]
  have hI := hI.step hb
  clear hb
  go_wp2_with fail
  have hQ := PK.new (T := p) (C := b) hI.bel
  have hI := hI.alloc (.cells #[.int .u32 p, .int .i64 b] 30)
  refine (prefix_any s _ (by have := Hs.out; omega) (HL.out.below HL.out.size hI.bel hI.bel.size)).mono ?_
  rintro e w3 ⟨rfl, hb⟩
  rw [Hc.out]
  generalize w2.alloc (.cells #[.int .u32 p, .int .i64 b] 30) = v2 at *
  generalize w2.heap.size = N2 at *
  have hI := hI.step hb
  have hQ := hQ.step hb
  clear hb
  have hC := PK.new (T := c) (C := d) hI.bel
  have hI := hI.alloc (.cells #[.int .u32 c, .int .i64 d] 30)
  have hQ := hQ.alloc (.cells #[.int .u32 c, .int .i64 d] 30)
  have q0 := hI.c0
  have q1 := hI.c1
  go_wp2_with fail
  refine (refright_any p b _ Hp.out).mono ?_
  rintro e w4 ⟨rfl, hb⟩
  rw [Hr.out]
  generalize w3.alloc (.cells #[.int .u32 c, .int .i64 d] 30) = v3 at *
  generalize w3.heap.size = N3 at *
  have hI := hI.step hb
  have hQ := hQ.step hb
  have hC := hC.step hb
  clear hb q0 q1
  have q0 := hI.c0
  have q1 := hI.c1
  have q2 := hQ.c0
  have q3 := hQ.c1
  have q4 := hC.c0
  have q5 := hC.c1
  go_wp2_with fail
  refine (refptext_any p b _ Hp.out Hb.out).mono ?_
  rintro e w5 ⟨rfl, hb⟩
  rw [HT.out]
  have hI := hI.step hb
  have hQ := hQ.step hb
  have hC := hC.step hb
  clear hb q0 q1 q2 q3 q4 q5
  have q0 := hI.c0
  have q1 := hI.c1
  have q2 := hQ.c0
  have q3 := hQ.c1
  have q4 := hC.c0
  have q5 := hC.c1
  go_wp2_with fail
  refine (refright_any c d _ U3.out).mono ?_
  rintro e w6 ⟨rfl, hb⟩
  rw [U2.out]
  have hI := hI.step hb
  have hQ := hQ.step hb
  have hC := hC.step hb
  clear hb q0 q1 q2 q3 q4 q5
  have q0 := hI.c0
  have q1 := hI.c1
  have q2 := hQ.c0
  have q3 := hQ.c1
  have q4 := hC.c0
  have q5 := hC.c1
  go_wp2_with fail
  refine (refptext_any c d _ U3.out U4.out).mono ?_
  rintro e w7 ⟨rfl, hb⟩
  rw [U1.out]
  have hI := hI.step hb
  have hQ := hQ.step hb
  have hC := hC.step hb
  clear hb q0 q1 q2 q3 q4 q5
  have q0 := hI.c0
  have q1 := hI.c1
  have q2 := hQ.c0
  have q3 := hQ.c1
  have q4 := hC.c0
  have q5 := hC.c1
  go_wp2_with fail
  refine (awake_any _ (HL.out.below HL.out.size hI.bel hI.bel.size)).mono ?_
  rintro e w9 ⟨rfl, hb⟩
  have hI := hI.step hb
  clear hb q0 q1 q2 q3 q4 q5
  go_wp2
  go_ret
  exact ⟨rfl, hI.bel⟩

theorem ptexts_any (p : Nat) (b : Int) (s : ByteArray) (w : World) (hp : p < 4294967296) (L : Laid w) :
    Calls Tryd.prog 5 #[.agg #[.int .u32 p, .int .i64 b], .string s] w fun e w' => e = .returned (.bool true) ∧ Below w.heap.size w w' := by
  by_cases hs : 60 < s.size
  · exact ptexts_long p b s w L hs
  · cases hr : A.right p b
    · exact ptexts_wrong p b s w hp L hs hr
    · obtain ⟨n, rfl⟩ := Int.eq_ofNat_of_zero_le (right_bits hr).1
      cases hn : A.prefix s with
      | none => exact ptexts_none p n s w hp L hs hr hn
      | some x => exact ptexts_some p n s w hp L hs hr x.1 x.2 hn
#print axioms ptexts_any
end Go.Proofs.YtlnmpibhjpedcaaDoor
