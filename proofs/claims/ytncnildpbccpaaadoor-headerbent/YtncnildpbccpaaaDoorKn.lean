/- The walk of the document's own packet of bytes, from its options on. -/
import Derived.Test.YtncnildpbccpaaaDoorKm
import Derived.Test.YtncnildpbccpaaaDoorKc
import Derived.Test.YtncnildpbccpaaaDoorKk
import Derived.Test.YtncnildpbccpaaaDoorKl
set_option maxRecDepth 100000
namespace Go.Proofs.YtncnildpbccpaaaDoor
open Go.RowKit
set_option linter.unusedVariables false

theorem refnumber_qt (s : List UInt8) (a : Nat) (z : Int) (hz : z = (a : Int)) (w : World) (h : a + 3 < s.length) (hs : s.length ≤ 90000) :
    Calls Tryd.prog 37 #[.string (ba s), .int .i64 z] w fun e w' => e = .returned (.int .u32 (H.wd s a)) ∧ ∃ n, w' = w.drewN n :=
  (refnumber_at s a z hz w h hs).mono fun e w' ⟨h1, h2⟩ => ⟨h1, 2, h2⟩

theorem alloc_drewN (w : World) (k : Nat) (X : Obj) : (w.drewN k).alloc X = (w.alloc X).drewN k := by
  induction k with
  | zero => rfl
  | succ n ih => exact congrArg World.drew ih

set_option maxHeartbeats 1000000 in
theorem refh_opt (s : List UInt8) (w : World) (hs : s.length ≤ 90000) (hlen : 20 ≤ s.length) (hv : H.g s 0 / 16 = 4) (h5 : ¬ H.g s 0 % 16 < 5) (hq : ¬ 32768 ≤ H.sh s 6) (h1 : ¬ s.length < 4 * (H.g s 0 % 16)) (h2 : ¬ H.sh s 2 < 4 * (H.g s 0 % 16)) (h3 : ¬ s.length < H.sh s 2) (h4 : ¬ H.sh s 2 < s.length) (hg : M.ofs [ba (s.take (H.hl s))] = 0) (n : Nat) (hp : O.parse ((s.drop 20).take (H.hl s - 20)) = .error n) :
    Calls Tryd.prog 18 #[.string (ba s)] w (HParsed (.error n) w) := by
  have z := ba_size s
  have Hs2 := Lib.hid (fun w => refshort_at s 2 2 rfl w (by omega) hs)
  have Hs6 := Lib.hid (fun w => refshort_at s 6 6 rfl w (by omega) hs)
  have y0 : 0 < (ba s).size := by rw [z]; omega
  have x0 : (((ba s)[0]'y0).toNat : Int) = (H.g s 0 : Int) := by rw [ba_get]
  have f0 := H.g_lt s 0
  have f6 := H.sh_lt s 6
  have f2 := H.sh_lt s 2
  have y1 : (0 : Int) < (s.length : Int) := by omega
  have v1 : (((H.g s 0 : Nat) : Int) / 16 != 4) = false := by rw [bne_eq_false_iff_eq]; omega
  have hx : (ba s).extract 0 (4 * (H.g s 0 % 16)) = ba (s.take (H.hl s)) := ba_take s _
  have hxs : (ba (s.take (H.hl s))).size ≤ 60 := by rw [ba_size, List.length_take]; have := H.hl_le s; omega
  have Hof := Lib.hid (fun w => refof_any (ba (s.take (H.hl s))) w (by omega))
  obtain ⟨m, hm⟩ : ∃ m, M.ofs [ba (s.take (H.hl s))] = m := ⟨_, rfl⟩
  rw [hm] at Hof hg
  clear hm
  subst hg
  have hn := O.parse_err _ _ hp
  have hhl : H.hl s = 4 * (H.g s 0 % 16) := rfl
  have hy : (ba s).extract 20 (4 * (H.g s 0 % 16)) = ba ((s.drop 20).take (H.hl s - 20)) := by rw [extract_ba, ba_list, hhl]
  have hyl : (ba ((s.drop 20).take (H.hl s - 20))).size ≤ 60 := by rw [ba_size, List.length_take]; have := H.hl_le s; omega
  have Hop := Lib.hid (fun w => refParse_any (ba ((s.drop 20).take (H.hl s - 20))) w (by omega))
  rw [ba_list, hp] at Hop
  clear hp
  have hmod : ((H.g s 0 : Nat) : Int) % 16 = ((H.g s 0 % 16 : Nat) : Int) := by omega
  have r1 : (4 * ((H.g s 0 % 16 : Nat) : Int)).toNat = 4 * (H.g s 0 % 16) := by omega
  have h16 : H.g s 0 % 16 < 16 := by omega
  have hne : ((n : Int) != 0) = true := by simp; omega
  clear hhl
  generalize ba ((s.drop 20).take (H.hl s - 20)) = B at *
  generalize ba (s.take (H.hl s)) = A at *
  generalize ba s = S at *
  generalize H.g s 0 % 16 = f4 at *
  generalize H.g s 0 = f at *
  generalize H.sh s 6 = q at *
  generalize H.sh s 2 = sz at *
  go_enter Tryd.func18, Tryd.ntmps18
  go_wp2
  go_quiet ((go_at_call 35; first | (with_reducible exact Calls.quiet_of (Hs2.out _)) | (with_reducible exact Calls.quiet_of (Hs6.out _))))
  clear Hs2 Hs6
  have hA := Ans.new w nq
  have hbw := zero_below w nq
  generalize ((w.alloc zeroO).drewN nq) = w1 at *
  go_wp2_with fail
  refine (Hof.out _).mono ?_
  rintro e w2 ⟨rfl, rfl⟩
  go_wp2_with fail
  refine (Hop.out _).mono ?_
  rintro e w2 ⟨rfl, hb2⟩
  have hA2 := hA.carry hb2
  have hbw2 := hbw.trans (hb2.mono hbw.size)
  clear hA hbw hb2
  have hA := hA2
  have hbw := hbw2
  clear hA2 hbw2
  have hcell := fun i => hA.cell w rfl i
  have hfz := fun i => hA.fz w rfl i
  go_wp2
  exact bodyPost_ret (v := .tuple #[zeroV, .int .i64 n]) (by simp [results, Tryd.results18, go_sem, hcell]) rfl ⟨rfl, sets_below hbw _ _ _ _ _ _ _ _ _ _ _⟩

set_option maxHeartbeats 1000000 in
theorem refh_dat (s : List UInt8) (w : World) (hs : s.length ≤ 90000) (hlen : 20 ≤ s.length) (hv : H.g s 0 / 16 = 4) (h5 : ¬ H.g s 0 % 16 < 5) (hq : ¬ 32768 ≤ H.sh s 6) (h1 : ¬ s.length < 4 * (H.g s 0 % 16)) (h2 : ¬ H.sh s 2 < 4 * (H.g s 0 % 16)) (h3 : ¬ s.length < H.sh s 2) (h4 : ¬ H.sh s 2 < s.length) (hg : M.ofs [ba (s.take (H.hl s))] = 0) (l : List Opt) (hp : O.parse ((s.drop 20).take (H.hl s - 20)) = .ok l) (hd : 65535 < H.sh s 6 % 8192 * 8 + (s.length - H.hl s)) :
    Calls Tryd.prog 18 #[.string (ba s)] w (HParsed (.error 3) w) := by
  have z := ba_size s
  have Hs2 := Lib.hid (fun w => refshort_at s 2 2 rfl w (by omega) hs)
  have Hs6 := Lib.hid (fun w => refshort_at s 6 6 rfl w (by omega) hs)
  have y0 : 0 < (ba s).size := by rw [z]; omega
  have x0 : (((ba s)[0]'y0).toNat : Int) = (H.g s 0 : Int) := by rw [ba_get]
  have f0 := H.g_lt s 0
  have f6 := H.sh_lt s 6
  have f2 := H.sh_lt s 2
  have y1 : (0 : Int) < (s.length : Int) := by omega
  have v1 : (((H.g s 0 : Nat) : Int) / 16 != 4) = false := by rw [bne_eq_false_iff_eq]; omega
  have hx : (ba s).extract 0 (4 * (H.g s 0 % 16)) = ba (s.take (H.hl s)) := ba_take s _
  have hxs : (ba (s.take (H.hl s))).size ≤ 60 := by rw [ba_size, List.length_take]; have := H.hl_le s; omega
  have Hof := Lib.hid (fun w => refof_any (ba (s.take (H.hl s))) w (by omega))
  obtain ⟨m, hm⟩ : ∃ m, M.ofs [ba (s.take (H.hl s))] = m := ⟨_, rfl⟩
  rw [hm] at Hof hg
  clear hm
  subst hg
  have hhl : H.hl s = 4 * (H.g s 0 % 16) := rfl
  have hy : (ba s).extract 20 (4 * (H.g s 0 % 16)) = ba ((s.drop 20).take (H.hl s - 20)) := by rw [extract_ba, ba_list, hhl]
  have hyl : (ba ((s.drop 20).take (H.hl s - 20))).size ≤ 60 := by rw [ba_size, List.length_take]; have := H.hl_le s; omega
  have Hop := Lib.hid (fun w => refParse_any (ba ((s.drop 20).take (H.hl s - 20))) w (by omega))
  rw [ba_list, hp] at Hop
  clear hp
  have hmod : ((H.g s 0 : Nat) : Int) % 16 = ((H.g s 0 % 16 : Nat) : Int) := by omega
  have r1 : (4 * ((H.g s 0 % 16 : Nat) : Int)).toNat = 4 * (H.g s 0 % 16) := by omega
  have h16 : H.g s 0 % 16 < 16 := by omega
  have Hs4 := Lib.hid (fun w => refshort_at s 4 4 rfl w (by omega) hs)
  have Hn12 := Lib.hid (fun w => refnumber_qt s 12 12 rfl w (by omega) hs)
  have Hn16 := Lib.hid (fun w => refnumber_qt s 16 16 rfl w (by omega) hs)
  have g1 : 1 < (ba s).size := by rw [z]; omega
  have g8 : 8 < (ba s).size := by rw [z]; omega
  have g9 : 9 < (ba s).size := by rw [z]; omega
  have x1 : (((ba s)[1]'g1).toNat : Int) = (H.g s 1 : Int) := by rw [ba_get]
  have x8 : (((ba s)[8]'g8).toNat : Int) = (H.g s 8 : Int) := by rw [ba_get]
  have x9 : (((ba s)[9]'g9).toNat : Int) = (H.g s 9 : Int) := by rw [ba_get]
  have hz1 : (ba s).extract (4 * (H.g s 0 % 16)) s.length = ba (s.drop (H.hl s)) := ba_drop s _
  have u1 : wrap64 ((H.g s 1 : Nat) : Int) = (H.g s 1 : Nat) := IntWalk.wrap64_in _ (by have := H.g_lt s 1; omega)
  have u8 : wrap64 ((H.g s 8 : Nat) : Int) = (H.g s 8 : Nat) := IntWalk.wrap64_in _ (by have := H.g_lt s 8; omega)
  have u9 : wrap64 ((H.g s 9 : Nat) : Int) = (H.g s 9 : Nat) := IntWalk.wrap64_in _ (by have := H.g_lt s 9; omega)
  have hz2 : (ba (s.drop (H.hl s))).size = s.length - 4 * (H.g s 0 % 16) := by rw [ba_size, List.length_drop]; rfl
  rw [hhl] at hd
  clear hhl
  generalize ba ((s.drop 20).take (H.hl s - 20)) = B at *
  generalize ba (s.take (H.hl s)) = A at *
  generalize ba s = S at *
  generalize H.g s 0 % 16 = f4 at *
  generalize H.g s 0 = f at *
  generalize H.sh s 6 = q at *
  generalize H.sh s 2 = sz at *
  go_enter Tryd.func18, Tryd.ntmps18
  go_wp2
  go_quiet ((go_at_call 35; first | (with_reducible exact Calls.quiet_of (Hs2.out _)) | (with_reducible exact Calls.quiet_of (Hs6.out _))))
  clear Hs2 Hs6
  have hA := Ans.new w nq
  have hbw := zero_below w nq
  generalize ((w.alloc zeroO).drewN nq) = w1 at *
  go_wp2_with fail
  refine (Hof.out _).mono ?_
  rintro e w2 ⟨rfl, rfl⟩
  go_wp2_with fail
  refine (Hop.out _).mono ?_
  rintro e w2 ⟨ao, cp, rfl, hrow, hb2⟩
  have hA2 := hA.carry hb2
  have hbw2 := hbw.trans (hb2.mono hbw.size)
  clear hA hbw hb2
  have hA := hA2
  have hbw := hbw2
  clear hA2 hbw2
  go_upto_region 19 with fail
  have t1 : 4 * (f4 : Int) ≤ (s.length : Int) := by omega
  have t2 : 0 ≤ 4 * (f4 : Int) := by omega
  have t3 : IntKind.i64.wrap (4 * (f4 : Int)) = 4 * (f4 : Int) := IntWalk.i64_in _ (by omega)
  have t4 : IntKind.i64.wrap ((q : Int) % 8192 * 8) = (q : Int) % 8192 * 8 := IntWalk.i64_in _ (by omega)
  have t5 : 4 * f4 ≤ s.length := by omega
  refine region_float_quiet 32 9 { dst := some 9, op := Op.alloc 36, type := 0, pos := "ref.go:74", after := #[], guard := none } zeroO (by kernel_rfl) rfl rfl (by kernel_rfl) (by intro a w; go_simp) (by kernel_rfl) ?_
  apply Exists.intro
  refine ⟨?_, ?_⟩
  · intro X
    simp only [List.take_succ_cons, List.take_zero]
    repeat (go_big_quiet_step ((first
      | (go_at_call 35; (with_reducible exact Calls.quiet_of (Hs4.out _)))
      | (go_at_call 37; (with_reducible exact Calls.quiet_of (Hn12.out _)))
      | (go_at_call 37; (with_reducible exact Calls.quiet_of (Hn16.out _))))))
    exact wpQuiet_nil rfl
  rintro w3 ⟨nr, hw3⟩
  have hA3 : Ans w.heap.size w3 := ⟨by rw [hw3]; exact hA.blk⟩
  have hbw3 : Below w.heap.size w w3 := by rw [hw3]; exact belowN hbw nr
  have hrow3 : OptRow w3 ao l := by rw [hw3]; exact hrow.carry (belowN (Below.refl _ _) nr)
  clear hA hbw hrow hw3
  simp only [List.drop_succ_cons, List.drop_zero, Act.put, List.setIfInBounds_toArray, List.set_cons_zero, List.set_cons_succ]
  clear Hs4 Hn12 Hn16
  clear t1 t2 t3 t4 r1 hmod
  have hcell := fun i => hA3.cell w rfl i
  have hfz := fun i => hA3.fz w rfl i
  have hN := hA3.lt
  go_wp2
  exact bodyPost_ret (v := .tuple #[zeroV, .int .i64 3]) (by simp [results, Tryd.results18, go_sem, hcell, hN]) rfl ⟨rfl, (sets_below hbw3 _ _ _ _ _ _ _ _ _ _ _).alloc (by simp; omega) _⟩

set_option maxHeartbeats 1000000 in
theorem refh_ok (s : List UInt8) (w : World) (hs : s.length ≤ 90000) (hlen : 20 ≤ s.length) (hv : H.g s 0 / 16 = 4) (h5 : ¬ H.g s 0 % 16 < 5) (hq : ¬ 32768 ≤ H.sh s 6) (h1 : ¬ s.length < 4 * (H.g s 0 % 16)) (h2 : ¬ H.sh s 2 < 4 * (H.g s 0 % 16)) (h3 : ¬ s.length < H.sh s 2) (h4 : ¬ H.sh s 2 < s.length) (hg : M.ofs [ba (s.take (H.hl s))] = 0) (l : List Opt) (hp : O.parse ((s.drop 20).take (H.hl s - 20)) = .ok l) (hd : ¬ 65535 < H.sh s 6 % 8192 * 8 + (s.length - H.hl s)) :
    Calls Tryd.prog 18 #[.string (ba s)] w (HParsed (.ok (H.pkt s l)) w) := by
  have z := ba_size s
  have Hs2 := Lib.hid (fun w => refshort_at s 2 2 rfl w (by omega) hs)
  have Hs6 := Lib.hid (fun w => refshort_at s 6 6 rfl w (by omega) hs)
  have y0 : 0 < (ba s).size := by rw [z]; omega
  have x0 : (((ba s)[0]'y0).toNat : Int) = (H.g s 0 : Int) := by rw [ba_get]
  have f0 := H.g_lt s 0
  have f6 := H.sh_lt s 6
  have f2 := H.sh_lt s 2
  have y1 : (0 : Int) < (s.length : Int) := by omega
  have HG : Hid (∀ ao cp w', OptRow w' ao l → Below w.heap.size w w' → HParsed (.ok (H.pkt s l)) w (.returned (.tuple #[pktV (H.pkt s l) (.slice ao l.length cp), .int .i64 0])) w') := Lib.hid fun ao cp w' h1 h2 => ⟨ao, cp, rfl, h1, h2⟩
  have Hv : Hid (∀ ao cp, pktV (H.pkt s l) (.slice ao l.length cp) = .agg #[.int .i64 (H.g s 1), .int .i64 (H.sh s 4), .bool (H.sh s 6 / 16384 % 2 == 1), .bool (H.sh s 6 / 8192 % 2 == 1), .int .i64 ((H.sh s 6 % 8192 * 8 : Nat) : Int), .int .i64 (H.g s 8), .int .i64 (H.g s 9), .int .u32 (H.wd s 12), .int .u32 (H.wd s 16), .slice ao l.length cp, .string (ba (s.drop (H.hl s)))]) := Lib.hid fun _ _ => rfl
  generalize hG : HParsed (.ok (H.pkt s l)) w = G at *
  clear hG
  have v1 : (((H.g s 0 : Nat) : Int) / 16 != 4) = false := by rw [bne_eq_false_iff_eq]; omega
  have hx : (ba s).extract 0 (4 * (H.g s 0 % 16)) = ba (s.take (H.hl s)) := ba_take s _
  have hxs : (ba (s.take (H.hl s))).size ≤ 60 := by rw [ba_size, List.length_take]; have := H.hl_le s; omega
  have Hof := Lib.hid (fun w => refof_any (ba (s.take (H.hl s))) w (by omega))
  obtain ⟨m, hm⟩ : ∃ m, M.ofs [ba (s.take (H.hl s))] = m := ⟨_, rfl⟩
  rw [hm] at Hof hg
  clear hm
  subst hg
  have hhl : H.hl s = 4 * (H.g s 0 % 16) := rfl
  have hy : (ba s).extract 20 (4 * (H.g s 0 % 16)) = ba ((s.drop 20).take (H.hl s - 20)) := by rw [extract_ba, ba_list, hhl]
  have hyl : (ba ((s.drop 20).take (H.hl s - 20))).size ≤ 60 := by rw [ba_size, List.length_take]; have := H.hl_le s; omega
  have Hop := Lib.hid (fun w => refParse_any (ba ((s.drop 20).take (H.hl s - 20))) w (by omega))
  rw [ba_list, hp] at Hop
  clear hp
  have hmod : ((H.g s 0 : Nat) : Int) % 16 = ((H.g s 0 % 16 : Nat) : Int) := by omega
  have r1 : (4 * ((H.g s 0 % 16 : Nat) : Int)).toNat = 4 * (H.g s 0 % 16) := by omega
  have h16 : H.g s 0 % 16 < 16 := by omega
  have Hs4 := Lib.hid (fun w => refshort_at s 4 4 rfl w (by omega) hs)
  have Hn12 := Lib.hid (fun w => refnumber_qt s 12 12 rfl w (by omega) hs)
  have Hn16 := Lib.hid (fun w => refnumber_qt s 16 16 rfl w (by omega) hs)
  have g1 : 1 < (ba s).size := by rw [z]; omega
  have g8 : 8 < (ba s).size := by rw [z]; omega
  have g9 : 9 < (ba s).size := by rw [z]; omega
  have x1 : (((ba s)[1]'g1).toNat : Int) = (H.g s 1 : Int) := by rw [ba_get]
  have x8 : (((ba s)[8]'g8).toNat : Int) = (H.g s 8 : Int) := by rw [ba_get]
  have x9 : (((ba s)[9]'g9).toNat : Int) = (H.g s 9 : Int) := by rw [ba_get]
  have hz1 : (ba s).extract (4 * (H.g s 0 % 16)) s.length = ba (s.drop (H.hl s)) := ba_drop s _
  have u1 : wrap64 ((H.g s 1 : Nat) : Int) = (H.g s 1 : Nat) := IntWalk.wrap64_in _ (by have := H.g_lt s 1; omega)
  have u8 : wrap64 ((H.g s 8 : Nat) : Int) = (H.g s 8 : Nat) := IntWalk.wrap64_in _ (by have := H.g_lt s 8; omega)
  have u9 : wrap64 ((H.g s 9 : Nat) : Int) = (H.g s 9 : Nat) := IntWalk.wrap64_in _ (by have := H.g_lt s 9; omega)
  have hz2 : (ba (s.drop (H.hl s))).size = s.length - 4 * (H.g s 0 % 16) := by rw [ba_size, List.length_drop]; rfl
  rw [hhl] at hd
  have b1 : (((H.sh s 6 : Nat) : Int) / 16384 % 2 == 1) = (H.sh s 6 / 16384 % 2 == 1) := by rw [Bool.eq_iff_iff]; simp; omega
  have b2 : (((H.sh s 6 : Nat) : Int) / 8192 % 2 == 1) = (H.sh s 6 / 8192 % 2 == 1) := by rw [Bool.eq_iff_iff]; simp; omega
  have b3 : ((H.sh s 6 : Nat) : Int) % 8192 * 8 = ((H.sh s 6 % 8192 * 8 : Nat) : Int) := by omega
  have f5 : H.sh s 6 % 8192 * 8 < 65536 := by omega
  generalize (H.sh s 6 / 16384 % 2 == 1) = y3 at *
  generalize (H.sh s 6 / 8192 % 2 == 1) = y4 at *
  generalize H.sh s 6 % 8192 * 8 = y5 at *
  clear hhl
  generalize ba ((s.drop 20).take (H.hl s - 20)) = B at *
  generalize ba (s.take (H.hl s)) = A at *
  generalize ba s = S at *
  generalize H.g s 0 % 16 = f4 at *
  generalize H.g s 0 = f at *
  generalize H.sh s 6 = q at *
  generalize H.sh s 2 = sz at *
  go_enter Tryd.func18, Tryd.ntmps18
  go_wp2
  go_quiet ((go_at_call 35; first | (with_reducible exact Calls.quiet_of (Hs2.out _)) | (with_reducible exact Calls.quiet_of (Hs6.out _))))
  clear Hs2 Hs6
  have hA := Ans.new w nq
  have hbw := zero_below w nq
  generalize ((w.alloc zeroO).drewN nq) = w1 at *
  go_wp2_with fail
  refine (Hof.out _).mono ?_
  rintro e w2 ⟨rfl, rfl⟩
  go_wp2_with fail
  refine (Hop.out _).mono ?_
  rintro e w2 ⟨ao, cp, rfl, hrow, hb2⟩
  have hA2 := hA.carry hb2
  have hbw2 := hbw.trans (hb2.mono hbw.size)
  clear hA hbw hb2
  have hA := hA2
  have hbw := hbw2
  clear hA2 hbw2
  go_upto_region 19 with fail
  have t1 : 4 * (f4 : Int) ≤ (s.length : Int) := by omega
  have t2 : 0 ≤ 4 * (f4 : Int) := by omega
  have t3 : IntKind.i64.wrap (4 * (f4 : Int)) = 4 * (f4 : Int) := IntWalk.i64_in _ (by omega)
  have t4 : IntKind.i64.wrap ((q : Int) % 8192 * 8) = (y5 : Int) := by rw [b3]; exact IntWalk.i64_in _ (by omega)
  have t5 : 4 * f4 ≤ s.length := by omega
  refine region_float_quiet 32 9 { dst := some 9, op := Op.alloc 36, type := 0, pos := "ref.go:74", after := #[], guard := none } zeroO (by kernel_rfl) rfl rfl (by kernel_rfl) (by intro a w; go_simp) (by kernel_rfl) ?_
  apply Exists.intro
  refine ⟨?_, ?_⟩
  · intro X
    simp only [List.take_succ_cons, List.take_zero]
    repeat (go_big_quiet_step ((first
      | (go_at_call 35; (with_reducible exact Calls.quiet_of (Hs4.out _)))
      | (go_at_call 37; (with_reducible exact Calls.quiet_of (Hn12.out _)))
      | (go_at_call 37; (with_reducible exact Calls.quiet_of (Hn16.out _))))))
    exact wpQuiet_nil rfl
  rintro w3 ⟨nr, hw3⟩
  have hA3 : Ans w.heap.size w3 := ⟨by rw [hw3]; exact hA.blk⟩
  have hbw3 : Below w.heap.size w w3 := by rw [hw3]; exact belowN hbw nr
  have hrow3 : OptRow w3 ao l := by rw [hw3]; exact hrow.carry (belowN (Below.refl _ _) nr)
  clear hA hbw hrow hw3
  simp only [List.drop_succ_cons, List.drop_zero, Act.put, List.setIfInBounds_toArray, List.set_cons_zero, List.set_cons_succ]
  clear Hs4 Hn12 Hn16
  clear t1 t2 t3 t4 r1 hmod
  have hcell := fun i => hA3.cell w rfl i
  have hfz := fun i => hA3.fz w rfl i
  have hN := hA3.lt
  have haw := away_pkt hA3.blk hrow3 rfl
  have Hend := Lib.hid (fun X => HG.out ao cp _ ((row_sets hrow3 haw (.int .i64 (H.g s 1)) (.int .i64 (H.sh s 4)) (.bool y3) (.bool y4) (.int .i64 y5) (.int .i64 (H.g s 8)) (.int .i64 (H.g s 9)) (.int .u32 (H.wd s 12)) (.int .u32 (H.wd s 16)) (.slice ao l.length cp) (.string (ba (s.drop (H.hl s))))).carry ((Below.refl _ _).alloc (Nat.le_refl _) X)) ((sets_below hbw3 (.int .i64 (H.g s 1)) (.int .i64 (H.sh s 4)) (.bool y3) (.bool y4) (.int .i64 y5) (.int .i64 (H.g s 8)) (.int .i64 (H.g s 9)) (.int .u32 (H.wd s 12)) (.int .u32 (H.wd s 16)) (.slice ao l.length cp) (.string (ba (s.drop (H.hl s))))).alloc (by simp; omega) X))
  simp only [Hv.out] at Hend
  clear hrow3 haw HG Hv hA3 x1 x8 x9
  go_wp2
  exact bodyPost_ret (v := .tuple #[.agg #[.int .i64 (H.g s 1), .int .i64 (H.sh s 4), .bool y3, .bool y4, .int .i64 y5, .int .i64 (H.g s 8), .int .i64 (H.g s 9), .int .u32 (H.wd s 12), .int .u32 (H.wd s 16), .slice ao l.length cp, .string (ba (s.drop (H.hl s)))], .int .i64 0]) (by simp [results, Tryd.results18, go_sem, hcell, hN]) rfl (Hend.out _)

end Go.Proofs.YtncnildpbccpaaaDoor

namespace Go.Proofs.YtncnildpbccpaaaDoor
namespace H

/-- All that holds where a packet is answered. -/
structure Ok (s : List UInt8) (l : List Opt) : Prop where
  len : 20 ≤ s.length
  ver : g s 0 / 16 = 4
  hl20 : 20 ≤ hl s
  flag : sh s 6 < 32768
  hlen : hl s ≤ s.length
  size : sh s 2 = s.length
  good : M.ofs [ba (s.take (hl s))] = 0
  opts : O.parse ((s.drop 20).take (hl s - 20)) = .ok l
  data : sh s 6 % 8192 * 8 + (s.length - hl s) ≤ 65535

theorem Ok.parse {s : List UInt8} {l : List Opt} (h : Ok s l) : H.parse s = .ok (pkt s l) := by
  have h1 := h.hl20
  have h2 := h.hlen
  have h3 := h.size
  unfold H.parse
  rw [if_neg (by have := h.len; omega), if_neg (by have := h.ver; have := h.flag; omega), if_neg (by omega), if_neg (by omega), if_neg (by omega), if_neg (by omega), if_neg (by rw [h.good]; simp), h.opts]
  exact if_neg (by have := h.data; omega)

theorem parse_inv (s : List UInt8) (k : Pkt) (h : H.parse s = .ok k) : ∃ l, k = pkt s l ∧ Ok s l := by
  unfold H.parse at h
  split at h
  · cases h
  rename_i a1
  split at h
  · cases h
  rename_i a2
  split at h
  · cases h
  rename_i a3
  split at h
  · cases h
  rename_i a4
  split at h
  · cases h
  rename_i a5
  split at h
  · cases h
  rename_i a6
  split at h
  · cases h
  rename_i a7
  split at h
  · cases h
  rename_i l hp
  split at h
  · cases h
  rename_i a8
  cases h
  exact ⟨l, rfl, by omega, by omega, by omega, by omega, by omega, by omega, by simpa using a7, hp, by omega⟩

theorem parse_err_ge (s : List UInt8) (n : Nat) (h : H.parse s = .error n) : 2 ≤ n ∧ n ≤ 5 := by
  unfold H.parse at h
  split at h
  · cases h; omega
  split at h
  · cases h; omega
  split at h
  · cases h; omega
  split at h
  · cases h; omega
  split at h
  · cases h; omega
  split at h
  · cases h; omega
  split at h
  · cases h; omega
  split at h
  · rename_i e hp
    cases h
    exact O.parse_err _ _ hp
  · split at h
    · cases h; omega
    · cases h
end H
#print axioms H.parse_inv
end Go.Proofs.YtncnildpbccpaaaDoor

namespace Go.Proofs.YtncnildpbccpaaaDoor
open Go.RowKit
set_option linter.unusedVariables false

set_option maxHeartbeats 1000000 in
theorem refh_short (s : List UInt8) (w : World) (hs : s.length ≤ 90000) (hlen : s.length < 20) :
    Calls Tryd.prog 18 #[.string (ba s)] w (HParsed (.error 2) w) := by
  have z := ba_size s
  generalize ba s = S at *
  go_enter Tryd.func18, Tryd.ntmps18
  go_wp2
  exact bodyPost_ret (v := .tuple #[zeroV, .int .i64 2]) (by simp [results, Tryd.results18, go_sem]) rfl ⟨rfl, (Below.refl _ w).alloc (Nat.le_refl _) _⟩

theorem refhparse (s : List UInt8) (w : World) (hs : s.length ≤ 90000) :
    Calls Tryd.prog 18 #[.string (ba s)] w (HParsed (H.parse s) w) := by
  have hhl : H.hl s = 4 * (H.g s 0 % 16) := rfl
  unfold H.parse
  by_cases hlen : s.length < 20
  · rw [if_pos hlen]
    exact refh_short s w hs hlen
  rw [if_neg hlen]
  have hlen' : 20 ≤ s.length := by omega
  by_cases hv' : ¬ H.g s 0 / 16 = 4
  · rw [if_pos (.inl hv')]
    exact refh_off1 s w hs hlen' hv'
  have hv : H.g s 0 / 16 = 4 := by omega
  by_cases h5 : H.g s 0 % 16 < 5
  · rw [if_pos (.inr (.inl (by rw [hhl]; omega)))]
    exact refh_off2 s w hs hlen' hv h5
  by_cases hq : 32768 ≤ H.sh s 6
  · rw [if_pos (.inr (.inr hq))]
    exact refh_off3 s w hs hlen' hv h5 hq
  rw [if_neg (by rw [hhl]; omega)]
  by_cases h1 : s.length < 4 * (H.g s 0 % 16)
  · rw [if_pos (by rw [hhl]; exact h1)]
    exact refh_sz1 s w hs hlen' hv h5 hq h1
  rw [if_neg (by rw [hhl]; exact h1)]
  by_cases h2 : H.sh s 2 < 4 * (H.g s 0 % 16)
  · rw [if_pos (by rw [hhl]; exact h2)]
    exact refh_sz2 s w hs hlen' hv h5 hq h1 h2
  rw [if_neg (by rw [hhl]; exact h2)]
  by_cases h3 : s.length < H.sh s 2
  · rw [if_pos h3]
    exact refh_sz3 s w hs hlen' hv h5 hq h1 h2 h3
  rw [if_neg h3]
  by_cases h4 : H.sh s 2 < s.length
  · rw [if_pos h4]
    exact refh_sz4 s w hs hlen' hv h5 hq h1 h2 h3 h4
  rw [if_neg h4]
  by_cases hg' : ¬ M.ofs [ba (s.take (H.hl s))] = 0
  · rw [if_pos hg']
    exact refh_sum s w hs hlen' hv h5 hq h1 h2 h3 h4 hg'
  have hg : M.ofs [ba (s.take (H.hl s))] = 0 := Classical.not_not.1 hg'
  rw [if_neg hg']
  cases hp : O.parse ((s.drop 20).take (H.hl s - 20)) with
  | error n => exact refh_opt s w hs hlen' hv h5 hq h1 h2 h3 h4 hg n hp
  | ok l =>
    by_cases hd : 65535 < H.sh s 6 % 8192 * 8 + (s.length - H.hl s)
    · simp only [if_pos hd]
      exact refh_dat s w hs hlen' hv h5 hq h1 h2 h3 h4 hg l hp hd
    · simp only [if_neg hd]
      exact refh_ok s w hs hlen' hv h5 hq h1 h2 h3 h4 hg l hp hd

/-- header's own, alike. -/
theorem hparse (s : List UInt8) (w : World) (hs : s.length ≤ 90000) :
    Calls Tryd.prog 17 #[.string (ba s)] w (HParsed (H.parse s) w) := by
  cases hp : H.parse s with
  | error n => exact hparse_err s w hs n (H.parse_err_ge s n hp).1 hp
  | ok k =>
    obtain ⟨l, rfl, _⟩ := H.parse_inv s k hp
    exact hparse_ok s w hs l hp
#print axioms refhparse
#print axioms hparse
end Go.Proofs.YtncnildpbccpaaaDoor

