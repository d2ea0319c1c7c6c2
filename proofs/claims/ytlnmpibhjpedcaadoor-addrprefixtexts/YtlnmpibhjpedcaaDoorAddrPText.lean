/- The walks of prefixes' texts. -/
import Derived.Test.YtlnmpibhjpedcaaDoorAddrTexts
import Derived.Test.YtlnmpibhjpedcaaDoorAddrPrefs
namespace Go.Proofs.YtlnmpibhjpedcaaDoor
open Go.RowKit

/-- A prefix's text. -/
def A.ptext (p b : Nat) : ByteArray := A.text p ++ ⟨#[47]⟩ ++ A.told b

set_option maxRecDepth 8000 in
set_option maxHeartbeats 1000000 in
theorem ptext_wrong (p : Nat) (b : Int) (w : World) (hp : p < 4294967296) (hr : A.right p b = false) :
    Calls Tryd.prog 20 #[.agg #[.int .u32 p, .int .i64 b]] w fun e w' => e = .returned (.string ⟨#[]⟩) ∧ Below w.heap.size w w' := by
  have Hp := Lib.hid hp
  have Hr := Lib.hid hr
  clear hp hr
  go_enter Tryd.func20, Tryd.ntmps20
  go_wp2_with fail
  refine (right_any p b _ Hp.out).mono ?_
  rintro e w1 ⟨rfl, hb⟩
  rw [Hr.out]
  have K1 := Lib.hid (((Below.refl _ w).alloc (Nat.le_refl _) _).trans (hb.mono (by simp)))
  clear hb
  go_wp2
  go_ret
  exact ⟨rfl, K1.out⟩

theorem itoa_any (b : Nat) (w : World) (hb : b ≤ 32) (L : Laid w) :
    Calls Tryd.prog 28 #[.int .i64 b] w fun e w' => e = .returned (.string (A.told b)) ∧ Below w.heap.size w w' := by
  refine (Tryd.strconv_Itoa (b : Int) (by omega) (by omega) w L.tab).mono ?_
  rintro e w2 ⟨rfl, k, os, hw2⟩
  refine ⟨rfl, ?_⟩
  subst hw2
  exact Lib.below_grow _ _ (Nat.le_refl _) _ _

set_option maxRecDepth 8000 in
set_option maxHeartbeats 1000000 in
theorem ptext_right (p b : Nat) (w : World) (hp : p < 4294967296) (L : Laid w) (hb32 : b ≤ 32) (hr : A.right p b = true) :
    Calls Tryd.prog 20 #[.agg #[.int .u32 p, .int .i64 b]] w fun e w' => e = .returned (.string (A.ptext p b)) ∧ Below w.heap.size w w' := by
  have HL := Lib.hid L
  have Hp := Lib.hid hp
  have Hr := Lib.hid hr
  have HE := Lib.hid (show A.ptext p b = A.text p ++ ⟨#[47]⟩ ++ A.told b from rfl)
  have z1 := text_size p hp
  have z2 : (A.told b).size ≤ 3 := told_len b (by omega)
  have Hb := Lib.hid hb32
  generalize hT : A.text p = T at *
  generalize hU : A.told b = U at *
  have HT := Lib.hid hT
  have HU := Lib.hid hU
  have y : ByteArray.size (⟨#[47]⟩ : ByteArray) = 1 := rfl
  clear hp hr L hT hU hb32
  go_enter Tryd.func20, Tryd.ntmps20
  go_wp2_with fail
  refine (right_any p b _ Hp.out).mono ?_
  rintro e w1 ⟨rfl, hb⟩
  rw [Hr.out]
  have K1 := Lib.hid (((Below.refl _ w).alloc (Nat.le_refl _) _).trans (hb.mono (by simp)))
  have q0 := cell_kept (b := w.heap.size) (o := 0) (v := .int .u32 p) hb (by simp) (by simp)
  have q1 := cell_kept (b := w.heap.size) (o := 1) (v := .int .i64 b) hb (by simp) (by simp)
  have s1 : w.heap.size + 1 ≤ w1.heap.size := by have := hb.size; simp at this; omega
  clear hb
  go_wp2_with fail
  have hI : PK w w.heap.size p b w1 := ⟨q0, q1, K1.out, by omega⟩
  have q8 : (T ++ (⟨#[47]⟩ : ByteArray)).size = T.size + 1 := by rw [ByteArray.size_append]; rfl
  have q6 : (9223372036854775807 < T.size + 1) = False := by simp; omega
  have q7 : (9223372036854775807 < T.size + 1 + U.size) = False := by simp; omega
  go_region_held3 (fun v' => v'.cell? ⟨w.heap.size, 0, none⟩ = some (.int .u32 p) ∧ v'.cell? ⟨w.heap.size, 1, none⟩ = some (.int .i64 b)) (first | (refine ⟨?_, ?_⟩ <;> assumption) | go_keep) (first
    | ((go_at_call 10; (with_reducible refine (text_any p _ Hp.out (HL.out.below HL.out.size (PK.drew hI).bel (PK.drew hI).bel.size)).mono ?_); rintro e v3 ⟨rfl, hb⟩; rw [HT.out]; have hI2 := PK.step (PK.drew hI) hb; have c1 := hI2.c0; have c2 := hI2.c1))
    | ((go_at_call 28; (with_reducible refine (itoa_any b _ Hb.out (HL.out.below HL.out.size hI2.bel hI2.bel.size)).mono ?_); rintro e v4 ⟨rfl, hb⟩; rw [HU.out]; have hI3 := PK.step hI2 hb; have c3 := hI3.c0; have c4 := hI3.c1)))
  go_wp2
  go_ret
  exact ⟨by rw [HE.out]; rfl, PK.bel (N := w.heap.size) (T := p) (C := b) (by assumption)⟩

set_option maxRecDepth 8000 in
set_option maxHeartbeats 1000000 in
theorem refptext_any (p b : Nat) (w : World) (hp : p < 4294967296) (hb32 : b ≤ 32) :
    Calls Tryd.prog 22 #[.agg #[.int .u32 p, .int .i64 b]] w fun e w' => e = .returned (.string (A.ptext p b)) ∧ Below w.heap.size w w' := by
  have Hp := Lib.hid hp
  have HE := Lib.hid (show A.ptext p b = A.text p ++ ⟨#[47]⟩ ++ A.told b from rfl)
  have z1 := text_size p hp
  have z2 : (A.told b).size ≤ 3 := told_len b (by omega)
  have Hb := Lib.hid hb32
  generalize hT : A.text p = T at *
  have HU := Lib.hid (told_dec b)
  generalize hU : A.told b = U at *
  have HT := Lib.hid hT
  have y : ByteArray.size (⟨#[47]⟩ : ByteArray) = 1 := rfl
  clear hp hT hU hb32
  have hI : PK w w.heap.size p b (w.alloc (.cells #[.int .u32 p, .int .i64 b] 30)) := PK.new (Below.refl _ _)
  go_enter Tryd.func22, Tryd.ntmps22
  go_wp2_with fail
  generalize w.alloc (.cells #[.int .u32 p, .int .i64 b] 30) = w1 at *
  have q0 := hI.c0
  have q1 := hI.c1
  have q8 : (T ++ (⟨#[47]⟩ : ByteArray)).size = T.size + 1 := by rw [ByteArray.size_append]; rfl
  have q6 : (9223372036854775807 < T.size + 1) = False := by simp; omega
  have q7 : (9223372036854775807 < T.size + 1 + U.size) = False := by simp; omega
  go_region_held3 (fun v' => v'.cell? ⟨w.heap.size, 0, none⟩ = some (.int .u32 p) ∧ v'.cell? ⟨w.heap.size, 1, none⟩ = some (.int .i64 b)) (first | (refine ⟨?_, ?_⟩ <;> assumption) | go_keep) (first
    | ((go_at_call 11; (with_reducible refine (reftext_any p _ Hp.out).mono ?_); rintro e v3 ⟨rfl, hb⟩; rw [HT.out]; have hI2 := PK.step (PK.drew hI) hb; have c1 := hI2.c0; have c2 := hI2.c1))
    | ((go_at_call 30; (with_reducible refine (number10_any b _ (Nat.le_trans Hb.out (by decide))).mono ?_); rintro e v4 ⟨rfl, hb⟩; rw [HU.out]; have hI3 := PK.step hI2 hb; have c3 := hI3.c0; have c4 := hI3.c1)))
  go_wp2
  go_ret
  exact ⟨by rw [HE.out]; rfl, PK.bel (N := w.heap.size) (T := p) (C := b) (by assumption)⟩
#print axioms ptext_right
#print axioms refptext_any
end Go.Proofs.YtlnmpibhjpedcaaDoor
