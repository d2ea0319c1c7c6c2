/- The walk of the document's own packet of bytes. -/
import Derived.Test.YtncnildpbccpaaaDoorKl
import Derived.Test.YtncnildpbccpaaaDoorKk
import Derived.Deep.RegionHeld3
set_option maxRecDepth 100000
namespace Go.Proofs.YtncnildpbccpaaaDoor
open Go.RowKit
set_option linter.unusedVariables false

/-- The block of a packet that is answered, as it is made. -/
abbrev zeroO : Obj := .cells #[.int .i64 0, .int .i64 0, .bool false, .bool false, .int .i64 0, .int .i64 0, .int .i64 0, .int .u32 0, .int .u32 0, .slice none 0 0, .string ⟨#[]⟩] 36

theorem zero_below (w : World) (n : Nat) : Below w.heap.size w ((w.alloc zeroO).drewN n) := belowN ((Below.refl _ w).alloc (Nat.le_refl _) _) n

theorem sets_below {w w1 : World} {N : Nat} (h : Below N w w1) (v0 v1 v2 v3 v4 v5 v6 v7 v8 v9 v10 : Value) :
    Below N w (((((((((((w1.setCell ⟨N, 0, none⟩ v0).setCell ⟨N, 1, none⟩ v1).setCell ⟨N, 2, none⟩ v2).setCell ⟨N, 3, none⟩ v3).setCell ⟨N, 4, none⟩ v4).setCell ⟨N, 5, none⟩ v5).setCell ⟨N, 6, none⟩ v6).setCell ⟨N, 7, none⟩ v7).setCell ⟨N, 8, none⟩ v8).setCell ⟨N, 9, none⟩ v9).setCell ⟨N, 10, none⟩ v10) :=
  ((((((((((h.setCell (Nat.le_refl _) _).setCell (Nat.le_refl _) _).setCell (Nat.le_refl _) _).setCell (Nat.le_refl _) _).setCell (Nat.le_refl _) _).setCell (Nat.le_refl _) _).setCell (Nat.le_refl _) _).setCell (Nat.le_refl _) _).setCell (Nat.le_refl _) _).setCell (Nat.le_refl _) _).setCell (Nat.le_refl _) _

/-- The block in which the answer will lie, as it was made, in a later world. -/
structure Ans (N : Nat) (w1 : World) : Prop where
  blk : w1.heap[N]? = some zeroO

theorem Ans.cell {N : Nat} {w1 : World} (h : Ans N w1) (w : World) (hN : N = w.heap.size) (i : Nat) : w1.cell? ⟨N, i, none⟩ = (w.alloc zeroO).cell? ⟨N, i, none⟩ := by
  subst hN
  exact World.cell?_of_block (h.blk.trans (heap_alloc_new w zeroO).symm)
theorem Ans.fz {N : Nat} {w1 : World} (h : Ans N w1) (w : World) (hN : N = w.heap.size) (i : Nat) : w1.frozen? ⟨N, i, none⟩ = (w.alloc zeroO).frozen? ⟨N, i, none⟩ := by
  subst hN
  exact World.frozen?_of_block (h.blk.trans (heap_alloc_new w zeroO).symm)
theorem Ans.lt {N : Nat} {w1 : World} (h : Ans N w1) : N < w1.heap.size := lt_of_block h.blk
theorem Ans.new (w : World) (n : Nat) : Ans w.heap.size ((w.alloc zeroO).drewN n) := ⟨heap_alloc_new w zeroO⟩
theorem Ans.carry {N : Nat} {w w' : World} (h : Ans N w) (hb : Below w.heap.size w w') : Ans N w' := ⟨(hb.block N (lt_of_block h.blk)).trans h.blk⟩

set_option maxHeartbeats 1000000 in
theorem refh_off1 (s : List UInt8) (w : World) (hs : s.length ≤ 90000) (hlen : 20 ≤ s.length) (hv : ¬ H.g s 0 / 16 = 4) :
    Calls Tryd.prog 18 #[.string (ba s)] w (HParsed (.error 3) w) := by
  have z := ba_size s
  have Hs2 := Lib.hid (fun w => refshort_at s 2 2 rfl w (by omega) hs)
  have Hs6 := Lib.hid (fun w => refshort_at s 6 6 rfl w (by omega) hs)
  have y0 : 0 < (ba s).size := by rw [z]; omega
  have x0 : (((ba s)[0]'y0).toNat : Int) = (H.g s 0 : Int) := by rw [ba_get]
  have f0 := H.g_lt s 0
  have f6 := H.sh_lt s 6
  have f2 := H.sh_lt s 2
  have y1 : (0 : Int) < (s.length : Int) := by omega
  have v1 : (((H.g s 0 : Nat) : Int) / 16 != 4) = true := by rw [bne_iff_ne]; omega
  generalize ba s = S at *
  generalize H.g s 0 = f at *
  generalize H.sh s 6 = q at *
  generalize H.sh s 2 = sz at *
  go_enter Tryd.func18, Tryd.ntmps18
  go_wp2
  go_quiet ((go_at_call 35; first | (with_reducible exact Calls.quiet_of (Hs2.out _)) | (with_reducible exact Calls.quiet_of (Hs6.out _))))
  clear Hs2 Hs6
  have hA := Ans.new w nq
  have hbw := zero_below w nq
  generalize ((w.alloc zeroO).drewN nq) = w1 at *
  have hcell := fun i => hA.cell w rfl i
  have hfz := fun i => hA.fz w rfl i
  go_wp2
  exact bodyPost_ret (v := .tuple #[zeroV, .int .i64 3]) (by simp [results, Tryd.results18, go_sem, hcell]) rfl ⟨rfl, sets_below hbw _ _ _ _ _ _ _ _ _ _ _⟩

set_option maxHeartbeats 1000000 in
theorem refh_off2 (s : List UInt8) (w : World) (hs : s.length ≤ 90000) (hlen : 20 ≤ s.length) (hv : H.g s 0 / 16 = 4) (h5 : H.g s 0 % 16 < 5) :
    Calls Tryd.prog 18 #[.string (ba s)] w (HParsed (.error 3) w) := by
  have z := ba_size s
  have Hs2 := Lib.hid (fun w => refshort_at s 2 2 rfl w (by omega) hs)
  have Hs6 := Lib.hid (fun w => refshort_at s 6 6 rfl w (by omega) hs)
  have y0 : 0 < (ba s).size := by rw [z]; omega
  have x0 : (((ba s)[0]'y0).toNat : Int) = (H.g s 0 : Int) := by rw [ba_get]
  have f0 := H.g_lt s 0
  have f6 := H.sh_lt s 6
  have f2 := H.sh_lt s 2
  have y1 : (0 : Int) < (s.length : Int) := by omega
  have v1 : (((H.g s 0 : Nat) : Int) / 16 != 4) = false := by rw [bne_eq_false_iff_eq]; omega
  generalize ba s = S at *
  generalize H.g s 0 = f at *
  generalize H.sh s 6 = q at *
  generalize H.sh s 2 = sz at *
  go_enter Tryd.func18, Tryd.ntmps18
  go_wp2
  go_quiet ((go_at_call 35; first | (with_reducible exact Calls.quiet_of (Hs2.out _)) | (with_reducible exact Calls.quiet_of (Hs6.out _))))
  clear Hs2 Hs6
  have hA := Ans.new w nq
  have hbw := zero_below w nq
  generalize ((w.alloc zeroO).drewN nq) = w1 at *
  have hcell := fun i => hA.cell w rfl i
  have hfz := fun i => hA.fz w rfl i
  go_wp2
  exact bodyPost_ret (v := .tuple #[zeroV, .int .i64 3]) (by simp [results, Tryd.results18, go_sem, hcell]) rfl ⟨rfl, sets_below hbw _ _ _ _ _ _ _ _ _ _ _⟩

set_option maxHeartbeats 1000000 in
theorem refh_off3 (s : List UInt8) (w : World) (hs : s.length ≤ 90000) (hlen : 20 ≤ s.length) (hv : H.g s 0 / 16 = 4) (h5 : ¬ H.g s 0 % 16 < 5) (hq : 32768 ≤ H.sh s 6) :
    Calls Tryd.prog 18 #[.string (ba s)] w (HParsed (.error 3) w) := by
  have z := ba_size s
  have Hs2 := Lib.hid (fun w => refshort_at s 2 2 rfl w (by omega) hs)
  have Hs6 := Lib.hid (fun w => refshort_at s 6 6 rfl w (by omega) hs)
  have y0 : 0 < (ba s).size := by rw [z]; omega
  have x0 : (((ba s)[0]'y0).toNat : Int) = (H.g s 0 : Int) := by rw [ba_get]
  have f0 := H.g_lt s 0
  have f6 := H.sh_lt s 6
  have f2 := H.sh_lt s 2
  have y1 : (0 : Int) < (s.length : Int) := by omega
  have v1 : (((H.g s 0 : Nat) : Int) / 16 != 4) = false := by rw [bne_eq_false_iff_eq]; omega
  generalize ba s = S at *
  generalize H.g s 0 = f at *
  generalize H.sh s 6 = q at *
  generalize H.sh s 2 = sz at *
  go_enter Tryd.func18, Tryd.ntmps18
  go_wp2
  go_quiet ((go_at_call 35; first | (with_reducible exact Calls.quiet_of (Hs2.out _)) | (with_reducible exact Calls.quiet_of (Hs6.out _))))
  clear Hs2 Hs6
  have hA := Ans.new w nq
  have hbw := zero_below w nq
  generalize ((w.alloc zeroO).drewN nq) = w1 at *
  have hcell := fun i => hA.cell w rfl i
  have hfz := fun i => hA.fz w rfl i
  go_wp2
  exact bodyPost_ret (v := .tuple #[zeroV, .int .i64 3]) (by simp [results, Tryd.results18, go_sem, hcell]) rfl ⟨rfl, sets_below hbw _ _ _ _ _ _ _ _ _ _ _⟩

set_option maxHeartbeats 1000000 in
theorem refh_sz1 (s : List UInt8) (w : World) (hs : s.length ≤ 90000) (hlen : 20 ≤ s.length) (hv : H.g s 0 / 16 = 4) (h5 : ¬ H.g s 0 % 16 < 5) (hq : ¬ 32768 ≤ H.sh s 6) (h1 : s.length < 4 * (H.g s 0 % 16)) :
    Calls Tryd.prog 18 #[.string (ba s)] w (HParsed (.error 2) w) := by
  have z := ba_size s
  have Hs2 := Lib.hid (fun w => refshort_at s 2 2 rfl w (by omega) hs)
  have Hs6 := Lib.hid (fun w => refshort_at s 6 6 rfl w (by omega) hs)
  have y0 : 0 < (ba s).size := by rw [z]; omega
  have x0 : (((ba s)[0]'y0).toNat : Int) = (H.g s 0 : Int) := by rw [ba_get]
  have f0 := H.g_lt s 0
  have f6 := H.sh_lt s 6
  have f2 := H.sh_lt s 2
  have y1 : (0 : Int) < (s.length : Int) := by omega
  have v1 : (((H.g s 0 : Nat) : Int) / 16 != 4) = false := by rw [bne_eq_false_iff_eq]; omega
  generalize ba s = S at *
  generalize H.g s 0 = f at *
  generalize H.sh s 6 = q at *
  generalize H.sh s 2 = sz at *
  go_enter Tryd.func18, Tryd.ntmps18
  go_wp2
  go_quiet ((go_at_call 35; first | (with_reducible exact Calls.quiet_of (Hs2.out _)) | (with_reducible exact Calls.quiet_of (Hs6.out _))))
  clear Hs2 Hs6
  have hA := Ans.new w nq
  have hbw := zero_below w nq
  generalize ((w.alloc zeroO).drewN nq) = w1 at *
  have hcell := fun i => hA.cell w rfl i
  have hfz := fun i => hA.fz w rfl i
  go_wp2
  exact bodyPost_ret (v := .tuple #[zeroV, .int .i64 2]) (by simp [results, Tryd.results18, go_sem, hcell]) rfl ⟨rfl, sets_below hbw _ _ _ _ _ _ _ _ _ _ _⟩

set_option maxHeartbeats 1000000 in
theorem refh_sz2 (s : List UInt8) (w : World) (hs : s.length ≤ 90000) (hlen : 20 ≤ s.length) (hv : H.g s 0 / 16 = 4) (h5 : ¬ H.g s 0 % 16 < 5) (hq : ¬ 32768 ≤ H.sh s 6) (h1 : ¬ s.length < 4 * (H.g s 0 % 16)) (h2 : H.sh s 2 < 4 * (H.g s 0 % 16)) :
    Calls Tryd.prog 18 #[.string (ba s)] w (HParsed (.error 3) w) := by
  have z := ba_size s
  have Hs2 := Lib.hid (fun w => refshort_at s 2 2 rfl w (by omega) hs)
  have Hs6 := Lib.hid (fun w => refshort_at s 6 6 rfl w (by omega) hs)
  have y0 : 0 < (ba s).size := by rw [z]; omega
  have x0 : (((ba s)[0]'y0).toNat : Int) = (H.g s 0 : Int) := by rw [ba_get]
  have f0 := H.g_lt s 0
  have f6 := H.sh_lt s 6
  have f2 := H.sh_lt s 2
  have y1 : (0 : Int) < (s.length : Int) := by omega
  have v1 : (((H.g s 0 : Nat) : Int) / 16 != 4) = false := by rw [bne_eq_false_iff_eq]; omega
  generalize ba s = S at *
  generalize H.g s 0 = f at *
  generalize H.sh s 6 = q at *
  generalize H.sh s 2 = sz at *
  go_enter Tryd.func18, Tryd.ntmps18
  go_wp2
  go_quiet ((go_at_call 35; first | (with_reducible exact Calls.quiet_of (Hs2.out _)) | (with_reducible exact Calls.quiet_of (Hs6.out _))))
  clear Hs2 Hs6
  have hA := Ans.new w nq
  have hbw := zero_below w nq
  generalize ((w.alloc zeroO).drewN nq) = w1 at *
  have hcell := fun i => hA.cell w rfl i
  have hfz := fun i => hA.fz w rfl i
  go_wp2
  exact bodyPost_ret (v := .tuple #[zeroV, .int .i64 3]) (by simp [results, Tryd.results18, go_sem, hcell]) rfl ⟨rfl, sets_below hbw _ _ _ _ _ _ _ _ _ _ _⟩

set_option maxHeartbeats 1000000 in
theorem refh_sz3 (s : List UInt8) (w : World) (hs : s.length ≤ 90000) (hlen : 20 ≤ s.length) (hv : H.g s 0 / 16 = 4) (h5 : ¬ H.g s 0 % 16 < 5) (hq : ¬ 32768 ≤ H.sh s 6) (h1 : ¬ s.length < 4 * (H.g s 0 % 16)) (h2 : ¬ H.sh s 2 < 4 * (H.g s 0 % 16)) (h3 : s.length < H.sh s 2) :
    Calls Tryd.prog 18 #[.string (ba s)] w (HParsed (.error 2) w) := by
  have z := ba_size s
  have Hs2 := Lib.hid (fun w => refshort_at s 2 2 rfl w (by omega) hs)
  have Hs6 := Lib.hid (fun w => refshort_at s 6 6 rfl w (by omega) hs)
  have y0 : 0 < (ba s).size := by rw [z]; omega
  have x0 : (((ba s)[0]'y0).toNat : Int) = (H.g s 0 : Int) := by rw [ba_get]
  have f0 := H.g_lt s 0
  have f6 := H.sh_lt s 6
  have f2 := H.sh_lt s 2
  have y1 : (0 : Int) < (s.length : Int) := by omega
  have v1 : (((H.g s 0 : Nat) : Int) / 16 != 4) = false := by rw [bne_eq_false_iff_eq]; omega
  generalize ba s = S at *
  generalize H.g s 0 = f at *
  generalize H.sh s 6 = q at *
  generalize H.sh s 2 = sz at *
  go_enter Tryd.func18, Tryd.ntmps18
  go_wp2
  go_quiet ((go_at_call 35; first | (with_reducible exact Calls.quiet_of (Hs2.out _)) | (with_reducible exact Calls.quiet_of (Hs6.out _))))
  clear Hs2 Hs6
  have hA := Ans.new w nq
  have hbw := zero_below w nq
  generalize ((w.alloc zeroO).drewN nq) = w1 at *
  have hcell := fun i => hA.cell w rfl i
  have hfz := fun i => hA.fz w rfl i
  go_wp2
  exact bodyPost_ret (v := .tuple #[zeroV, .int .i64 2]) (by simp [results, Tryd.results18, go_sem, hcell]) rfl ⟨rfl, sets_below hbw _ _ _ _ _ _ _ _ _ _ _⟩

set_option maxHeartbeats 1000000 in
theorem refh_sz4 (s : List UInt8) (w : World) (hs : s.length ≤ 90000) (hlen : 20 ≤ s.length) (hv : H.g s 0 / 16 = 4) (h5 : ¬ H.g s 0 % 16 < 5) (hq : ¬ 32768 ≤ H.sh s 6) (h1 : ¬ s.length < 4 * (H.g s 0 % 16)) (h2 : ¬ H.sh s 2 < 4 * (H.g s 0 % 16)) (h3 : ¬ s.length < H.sh s 2) (h4 : H.sh s 2 < s.length) :
    Calls Tryd.prog 18 #[.string (ba s)] w (HParsed (.error 5) w) := by
  have z := ba_size s
  have Hs2 := Lib.hid (fun w => refshort_at s 2 2 rfl w (by omega) hs)
  have Hs6 := Lib.hid (fun w => refshort_at s 6 6 rfl w (by omega) hs)
  have y0 : 0 < (ba s).size := by rw [z]; omega
  have x0 : (((ba s)[0]'y0).toNat : Int) = (H.g s 0 : Int) := by rw [ba_get]
  have f0 := H.g_lt s 0
  have f6 := H.sh_lt s 6
  have f2 := H.sh_lt s 2
  have y1 : (0 : Int) < (s.length : Int) := by omega
  have v1 : (((H.g s 0 : Nat) : Int) / 16 != 4) = false := by rw [bne_eq_false_iff_eq]; omega
  generalize ba s = S at *
  generalize H.g s 0 = f at *
  generalize H.sh s 6 = q at *
  generalize H.sh s 2 = sz at *
  go_enter Tryd.func18, Tryd.ntmps18
  go_wp2
  go_quiet ((go_at_call 35; first | (with_reducible exact Calls.quiet_of (Hs2.out _)) | (with_reducible exact Calls.quiet_of (Hs6.out _))))
  clear Hs2 Hs6
  have hA := Ans.new w nq
  have hbw := zero_below w nq
  generalize ((w.alloc zeroO).drewN nq) = w1 at *
  have hcell := fun i => hA.cell w rfl i
  have hfz := fun i => hA.fz w rfl i
  go_wp2
  exact bodyPost_ret (v := .tuple #[zeroV, .int .i64 5]) (by simp [results, Tryd.results18, go_sem, hcell]) rfl ⟨rfl, sets_below hbw _ _ _ _ _ _ _ _ _ _ _⟩

set_option maxHeartbeats 1000000 in
theorem refh_sum (s : List UInt8) (w : World) (hs : s.length ≤ 90000) (hlen : 20 ≤ s.length) (hv : H.g s 0 / 16 = 4) (h5 : ¬ H.g s 0 % 16 < 5) (hq : ¬ 32768 ≤ H.sh s 6) (h1 : ¬ s.length < 4 * (H.g s 0 % 16)) (h2 : ¬ H.sh s 2 < 4 * (H.g s 0 % 16)) (h3 : ¬ s.length < H.sh s 2) (h4 : ¬ H.sh s 2 < s.length) (hg : ¬ M.ofs [ba (s.take (H.hl s))] = 0) :
    Calls Tryd.prog 18 #[.string (ba s)] w (HParsed (.error 4) w) := by
  have z := ba_size s
  have Hs2 := Lib.hid (fun w => refshort_at s 2 2 rfl w (by omega) hs)
  have Hs6 := Lib.hid (fun w => refshort_at s 6 6 rfl w (by omega) hs)
  have y0 : 0 < (ba s).size := by rw [z]; omega
  have x0 : (((ba s)[0]'y0).toNat : Int) = (H.g s 0 : Int) := by rw [ba_get]
  have f0 := H.g_lt s 0
  have f6 := H.sh_lt s 6
  have f2 := H.sh_lt s 2
  have y1 : (0 : Int) < (s.length : Int) := by omega
  have v1 : (((H.g s 0 : Nat) : Int) / 16 != 4) = false := by rw [bne_eq_false_iff_eq]; omega
  have hx : (ba s).extract 0 (4 * (H.g s 0 % 16)) = ba (s.take (H.hl s)) := ba_take s _
  have hxs : (ba (s.take (H.hl s))).size ≤ 60 := by rw [ba_size, List.length_take]; have := H.hl_le s; omega
  have Hof := Lib.hid (fun w => refof_any (ba (s.take (H.hl s))) w (by omega))
  obtain ⟨m, hm⟩ : ∃ m, M.ofs [ba (s.take (H.hl s))] = m := ⟨_, rfl⟩
  rw [hm] at Hof hg
  clear hm
  have hne : ((m : Int) != 0) = true := by simp; omega
  have hmod : ((H.g s 0 : Nat) : Int) % 16 = ((H.g s 0 % 16 : Nat) : Int) := by omega
  have r1 : (4 * ((H.g s 0 % 16 : Nat) : Int)).toNat = 4 * (H.g s 0 % 16) := by omega
  have h16 : H.g s 0 % 16 < 16 := by omega
  generalize ba (s.take (H.hl s)) = A at *
  generalize ba s = S at *
  generalize H.g s 0 % 16 = f4 at *
  generalize H.g s 0 = f at *
  generalize H.sh s 6 = q at *
  generalize H.sh s 2 = sz at *
  go_enter Tryd.func18, Tryd.ntmps18
  go_wp2
  go_quiet ((go_at_call 35; first | (with_reducible exact Calls.quiet_of (Hs2.out _)) | (with_reducible exact Calls.quiet_of (Hs6.out _))))
  clear Hs2 Hs6
  have hA := Ans.new w nq
  have hbw := zero_below w nq
  generalize ((w.alloc zeroO).drewN nq) = w1 at *
  go_wp2_with fail
  refine (Hof.out _).mono ?_
  rintro e w2 ⟨rfl, rfl⟩
  have hcell := fun i => hA.cell w rfl i
  have hfz := fun i => hA.fz w rfl i
  go_wp2
  exact bodyPost_ret (v := .tuple #[zeroV, .int .i64 4]) (by simp [results, Tryd.results18, go_sem, hcell]) rfl ⟨rfl, sets_below hbw _ _ _ _ _ _ _ _ _ _ _⟩

end Go.Proofs.YtncnildpbccpaaaDoor

