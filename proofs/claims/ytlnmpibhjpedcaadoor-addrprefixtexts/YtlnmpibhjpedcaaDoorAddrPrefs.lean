/- The walk of AddrPrefixes. -/
import Derived.Test.YtlnmpibhjpedcaaDoorAddrRef
import Derived.Test.YtlnmpibhjpedcaaDoorAddrAwake
namespace Go.Proofs.YtlnmpibhjpedcaaDoor
open Go.RowKit

/-- A prefix in a block of the call's own, and nothing below it turned. -/
structure PK (w : World) (N : Nat) (T C : Int) (v : World) : Prop where
  c0 : v.cell? ⟨N, 0, none⟩ = some (.int .u32 T)
  c1 : v.cell? ⟨N, 1, none⟩ = some (.int .i64 C)
  bel : Below w.heap.size w v
  lt : N < v.heap.size

theorem PK.step {w v v' : World} {N : Nat} {T C : Int} (h : PK w N T C v) (hb : Below v.heap.size v v') : PK w N T C v' :=
  ⟨(hb.cell (p := ⟨N, 0, none⟩) h.lt).trans h.c0, (hb.cell (p := ⟨N, 1, none⟩) h.lt).trans h.c1, h.bel.trans (hb.mono h.bel.size), Nat.lt_of_lt_of_le h.lt hb.size⟩
theorem PK.drew {w v : World} {N : Nat} {T C : Int} (h : PK w N T C v) : PK w N T C v.drew := ⟨h.c0, h.c1, h.bel.drew, h.lt⟩
theorem PK.new {w w1 : World} {T C : Int} (h : Below w.heap.size w w1) : PK w w1.heap.size T C (w1.alloc (.cells #[.int .u32 T, .int .i64 C] 30)) :=
  ⟨by simp, by simp, h.alloc h.size _, by simp⟩
theorem PK.alloc {w v : World} {N : Nat} {T C : Int} (h : PK w N T C v) (o : Obj) : PK w N T C (v.alloc o) := h.step ((Below.refl _ _).alloc (Nat.le_refl _) _)

theorem bel_step {w v v' : World} (K : Below w.heap.size w v) (hb : Below v.heap.size v v') : Below w.heap.size w v' := K.trans (hb.mono K.size)

set_option maxHeartbeats 2000000 in
theorem prefs_any (p : Nat) (b : Int) (q : Nat) (c : Int) (a : Nat) (w : World) (hp : p < 4294967296) (hq : q < 4294967296) (ha : a < 4294967296) (L : Laid w) :
    Calls Tryd.prog 4 #[.agg #[.int .u32 p, .int .i64 b], .agg #[.int .u32 q, .int .i64 c], .int .u32 a] w fun e w' => e = .returned (.bool true) ∧ Below w.heap.size w w' := by
  have HL := Lib.hid L
  have Hp := Lib.hid hp
  have Hq := Lib.hid hq
  have Ha := Lib.hid ha
  clear L hp hq ha
  generalize hR : A.right p b = R
  generalize hH : A.holds p b a = Hd
  generalize hWi : A.within p b q c = Wi
  have HR := Lib.hid hR
  have HH := Lib.hid hH
  have HW := Lib.hid hWi
  clear hR hH hWi
  go_enter Tryd.func4, Tryd.ntmps4
  go_wp2_with fail
  have hI : PK w w.heap.size p b (w.alloc (.cells #[.int .u32 p, .int .i64 b] 30)) := PK.new (Below.refl _ _)
  have hX : PK w (w.heap.size + 1) q c ((w.alloc (.cells #[.int .u32 p, .int .i64 b] 30)).alloc (.cells #[.int .u32 q, .int .i64 c] 30)) := by
    have h := PK.new (T := q) (C := c) hI.bel
    simpa using h
  have hI := hI.alloc (.cells #[.int .u32 q, .int .i64 c] 30)
  generalize (w.alloc (.cells #[.int .u32 p, .int .i64 b] 30)).alloc (.cells #[.int .u32 q, .int .i64 c] 30) = v0 at *
  have c1 := hI.c0
  have c2 := hI.c1
  have c3 := hX.c0
  have c4 := hX.c1
  go_region_held3 (fun v' => v'.cell? ⟨w.heap.size, 0, none⟩ = some (.int .u32 p) ∧ v'.cell? ⟨w.heap.size, 1, none⟩ = some (.int .i64 b) ∧ v'.cell? ⟨w.heap.size + 1, 0, none⟩ = some (.int .u32 q) ∧ v'.cell? ⟨w.heap.size + 1, 1, none⟩ = some (.int .i64 c)) (first | (refine ⟨?_, ?_, ?_, ?_⟩ <;> assumption) | go_keep) (first
    | ((go_at_call 14; (with_reducible refine (right_any p b _ Hp.out).mono ?_); rintro e v3 ⟨rfl, hb⟩; rw [HR.out]; (first | (have hI := PK.step hI hb; have hX := PK.step hX hb) | (have hI := PK.step (PK.drew hI) hb; have hX := PK.step (PK.drew hX) hb)); have c1 := hI.c0; have c2 := hI.c1; have c3 := hX.c0; have c4 := hX.c1))
    | ((go_at_call 15; (with_reducible refine (refright_any p b _ Hp.out).mono ?_); rintro e v3 ⟨rfl, hb⟩; rw [HR.out]; (first | (have hI := PK.step hI hb; have hX := PK.step hX hb) | (have hI := PK.step (PK.drew hI) hb; have hX := PK.step (PK.drew hX) hb)); have c1 := hI.c0; have c2 := hI.c1; have c3 := hX.c0; have c4 := hX.c1))
    | ((go_at_call 16; (with_reducible refine (holds_any p b a _ Ha.out).mono ?_); rintro e v3 ⟨rfl, hb⟩; rw [HH.out]; (first | (have hI := PK.step hI hb; have hX := PK.step hX hb) | (have hI := PK.step (PK.drew hI) hb; have hX := PK.step (PK.drew hX) hb)); have c1 := hI.c0; have c2 := hI.c1; have c3 := hX.c0; have c4 := hX.c1))
    | ((go_at_call 17; (with_reducible refine (refholds_any p b a _ Hp.out Ha.out).mono ?_); rintro e v3 ⟨rfl, hb⟩; rw [HH.out]; (first | (have hI := PK.step hI hb; have hX := PK.step hX hb) | (have hI := PK.step (PK.drew hI) hb; have hX := PK.step (PK.drew hX) hb)); have c1 := hI.c0; have c2 := hI.c1; have c3 := hX.c0; have c4 := hX.c1))
    | ((go_at_call 18; (with_reducible refine (within_any p b q c _ Hp.out).mono ?_); rintro e v3 ⟨rfl, hb⟩; rw [HW.out]; (first | (have hI := PK.step hI hb; have hX := PK.step hX hb) | (have hI := PK.step (PK.drew hI) hb; have hX := PK.step (PK.drew hX) hb)); have c1 := hI.c0; have c2 := hI.c1; have c3 := hX.c0; have c4 := hX.c1))
    | ((go_at_call 19; (with_reducible refine (refwithin_any p b q c _ Hp.out Hq.out).mono ?_); rintro e v3 ⟨rfl, hb⟩; rw [HW.out]; (first | (have hI := PK.step hI hb; have hX := PK.step hX hb) | (have hI := PK.step (PK.drew hI) hb; have hX := PK.step (PK.drew hX) hb)); have c1 := hI.c0; have c2 := hI.c1; have c3 := hX.c0; have c4 := hX.c1))
    | ((go_at_call 8; (with_reducible refine (awake_any _ (HL.out.below HL.out.size hI.bel hI.bel.size)).mono ?_); rintro e v3 ⟨rfl, hb⟩; (first | (have hI := PK.step hI hb; have hX := PK.step hX hb) | (have hI := PK.step (PK.drew hI) hb; have hX := PK.step (PK.drew hX) hb)); have c1 := hI.c0; have c2 := hI.c1; have c3 := hX.c0; have c4 := hX.c1)))
  go_wp2
  go_ret
  exact ⟨rfl, PK.bel (N := w.heap.size) (T := p) (C := b) (by assumption)⟩
#print axioms prefs_any
end Go.Proofs.YtlnmpibhjpedcaaDoor
