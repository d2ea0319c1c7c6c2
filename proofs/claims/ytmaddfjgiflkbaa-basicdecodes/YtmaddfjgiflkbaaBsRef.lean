/- The walk of the document's answer for what reads an option. -/
import Derived.Test.YtmaddfjgiflkbaaBsDec
namespace Go.Proofs.Ytmaddfjgiflkbaa
open Go.RowKit
set_option maxRecDepth 100000
set_option linter.unusedVariables false

theorem L.lit31 (z : Int) : (#[.int .i64 z, .int .u8 0, .int .u8 0, .int .u8 0, .int .u8 0, .int .u8 0, .int .u8 0, .int .u8 0, .int .u8 0, .int .u8 0, .int .u8 0, .int .u8 0, .int .u8 0, .int .u8 0, .int .u8 0, .int .u8 0, .int .u8 0, .int .u8 0, .int .u8 0, .int .u8 0, .int .u8 0, .int .u8 0, .int .u8 0, .int .u8 0, .int .u8 0, .int .u8 0, .int .u8 0, .int .u8 0, .int .u8 0, .int .u8 0, .int .u8 0] : Array Value) = L.lv z 0 := by kernel_rfl
namespace B
open C
theorem tail_size (s : ByteArray) : (tail s).size = s.size - 1 := by unfold tail; rw [ByteArray.size_extract]; omega
theorem tail_get (s : ByteArray) (i : Nat) (h : i + 1 < s.size) : (tail s).data.toList.getD i 0 = s.data.toList.getD (i + 1) 0 := by
  unfold tail
  rw [ByteArray.data_extract]
  rw [List.getD_eq_getElem?_getD, List.getD_eq_getElem?_getD]
  congr 1
  rw [Array.getElem?_toList, Array.getElem?_toList, Array.getElem?_extract, if_pos (by show i < min s.size s.data.size - 1; show i < min s.size s.size - 1; omega)]
  congr 1
  omega
theorem tb_false (s : ByteArray) (k : Nat) (h : s.size ≤ k / 7) : tb s k = false := by unfold tb; rw [decide_eq_false (by omega)]; rfl
theorem told_stop (s : ByteArray) (k : Nat) (h : s.size ≤ k / 7) : ∀ d, toldTo s (k + d) = toldTo s k
  | 0 => rfl
  | d + 1 => by
    rw [show k + (d + 1) = k + d + 1 by omega]
    simp only [toldTo]
    rw [tb_false s (k + d) (by omega), if_neg (by decide), told_stop s k h d]
theorem head_dat (z : Int) (n : Nat) (s : ByteArray) (h : dat z n = s) : head s = lb z := by
  subst h
  unfold head dat nb
  simp
  have := lb_lt z
  omega
theorem lev_lb (z : Nat) (h : z < 4) : lev (lb z) = (z, true) := by
  match z, h with
  | 0, _ => rfl
  | 1, _ => rfl
  | 2, _ => rfl
  | 3, _ => rfl
theorem ok_of (z : Nat) (hz : z < 4) (s : ByteArray) (h : dat z (told (tail s)) = s) : okD s = true ∧ (lev (head s)).1 = z := by
  have h1 := head_dat z _ s h
  have h2 := lev_lb z hz
  rw [← h1] at h2
  refine ⟨?_, by rw [h2]⟩
  unfold okD
  rw [h2, decide_eq_true h]
  rfl
theorem no_of (s : ByteArray) (h : ∀ z : Nat, z < 4 → ¬ dat z (told (tail s)) = s) : okD s = false := by
  unfold okD
  rw [decide_eq_false (h _ (lev_lt _)), Bool.and_false]
theorem len_dat (z : Nat) (s : ByteArray) : (dat z (told s)).size ≤ 5 := by
  unfold dat
  rw [BsEnc.nb_size, List.length_cons]
  unfold au
  rw [List.length_map, List.length_range]
  have := len_le _ (told_most s)
  omega
end B

set_option maxHeartbeats 8000000 in
theorem refDec_any (k : Int) (s : ByteArray) (w : World) (hl : s.size ≤ 100000) :
    Calls Try.prog 11 #[.agg (opv k s)] w fun e w' => e = .returned (.tuple #[.agg (L.lv (B.decZ k s) (B.decN k s)), .int .i64 (B.decE k s : Nat)]) ∧ Below w.heap.size w w' := by
  have hb0 : Below w.heap.size w ((w.alloc (.cells (opv k s) 27)).alloc (.cells (L.lv 0 0) 25)) := ((Below.refl _ w).alloc (Nat.le_refl _) _).alloc (by simp) _
  have HO : Hid (OptAt ((w.alloc (.cells (opv k s) 27)).alloc (.cells (L.lv 0 0) 25)) w.heap.size k s) := Lib.hid ((OptAt.new w k s).alloc _)
  have HL : Hid (LabAt ((w.alloc (.cells (opv k s) 27)).alloc (.cells (L.lv 0 0) 25)) (w.heap.size + 1) 0 0) := Lib.hid (by have := LabAt.new (w.alloc (.cells (opv k s) 27)) 0 0; simpa using this)
  obtain ⟨DZ, hDZ⟩ : ∃ x, B.decZ k s = x := ⟨_, rfl⟩
  obtain ⟨DN, hDN⟩ : ∃ x, B.decN k s = x := ⟨_, rfl⟩
  obtain ⟨DE, hDE⟩ : ∃ x, B.decE k s = x := ⟨_, rfl⟩
  have HDZ := Lib.hid hDZ
  have HDN := Lib.hid hDN
  have HDE := Lib.hid hDE
  rw [hDZ, hDN, hDE]
  clear hDZ hDN hDE
  have hkind := HO.out.kind
  have hdata := HO.out.data
  have zL := HL.out.lt
  by_cases hk : k = 130
  · by_cases hs0 : s.size = 0
    · have G1 : Hid (B.decZ k s = 0) := Lib.hid (by unfold B.decZ; rw [if_pos hk, if_pos hs0])
      have G2 : Hid (B.decN k s = 0) := Lib.hid (by unfold B.decN; rw [if_pos hk, if_pos hs0])
      have G3 : Hid (B.decE k s = 2) := Lib.hid (by unfold B.decE; rw [if_pos hk, if_pos hs0])
      unfold opv at *
      have hemp : s = ⟨#[]⟩ := by
        apply ByteArray.ext
        exact Array.eq_empty_of_size_eq_zero hs0
      subst hk
      subst hemp
      go_enter Try.func11, Try.ntmps11
      go_wp2_with (rw [L.zero31]; refine store_lab rfl rfl rfl rfl HL.out ?_; intro w3 hs ho; have HL3 := Lib.hid hs; have ho3 := Lib.hid ho; clear hs ho)
      exact ret_lab_tmp rfl rfl rfl rfl HL3.out ⟨by rw [← HDZ.out, ← HDN.out, ← HDE.out, G1.out, G2.out, G3.out]; rfl, hb0.trans (ho3.out.below (by omega))⟩
    · have G1 : Hid (B.decZ k s = if B.okD s then (((B.lev (B.head s)).1 : Nat) : Int) else 0) := Lib.hid (by unfold B.decZ; rw [if_pos hk, if_neg hs0])
      have G2 : Hid (B.decN k s = if B.okD s then B.told (B.tail s) else 0) := Lib.hid (by unfold B.decN; rw [if_pos hk, if_neg hs0])
      have G3 : Hid (B.decE k s = if B.okD s then 0 else 3) := Lib.hid (by unfold B.decE; rw [if_pos hk, if_neg hs0])
      have hs1 : ((s.size : Int) == 0) = false := by rw [beq_eq_false_iff_ne]; omega
      subst hk
      unfold opv at *
      go_enter Try.func11, Try.ntmps11
      go_wp2
      rw [L.zero31]
      clear hkind hdata
      go_loopw [4] (fun i wr => ∃ v : Nat, v ≤ 4 ∧ i = .int .i64 v ∧ (∀ z : Nat, z < v → ¬ B.dat z (B.told (B.tail s)) = s) ∧ OptAt wr w.heap.size 130 s ∧ LabAt wr (w.heap.size + 1) 0 0 ∧ Below w.heap.size w wr) (fun i _ => 4 - (intOf i).toNat)
      case atStart => exact ⟨0, by omega, rfl, by omega, HO.out, HL.out, hb0⟩
      case round =>
        obtain ⟨v, hv, rfl, hno, hO, hL, hb⟩ := hrel
        clear HO HL hb0 zL
        have HO := Lib.hid hO
        have HL := Lib.hid hL
        have zO := hO.lt
        have zL := hL.lt
        have hbs := hb.size
        have Hno := Lib.hid hno
        clear hO hL hno
        by_cases hv4 : v < 4
        · have hv4' : (v : Int) < 4 := by omega
          have HN := Lib.hid (LabAt.new wr 0 0)
          go_wp2_with (rw [L.zero31, L.lit31]; refine store_lab rfl rfl rfl rfl HN.out ?_; intro w2 hs ho; have HB := Lib.hid hs; have ho2 := Lib.hid ho; clear hs ho)
          have hO2 := Lib.hid ((HO.out.alloc (.cells (L.lv 0 0) 25)).only ho2.out (by omega))
          have hL2 := Lib.hid ((HL.out.alloc (.cells (L.lv 0 0) 25)).only ho2.out (by omega))
          have hb2 : Below w.heap.size w w2 := (hb.alloc hbs _).trans (ho2.out.below hbs)
          generalize hg5 : wr.heap.size = g5 at *
          clear hg5 ho2 HN HO HL
          have htz := B.tail_size s
          have Hdat := B.len_dat v (B.tail s)
          obtain ⟨tl, htl⟩ : ∃ tl, B.tail s = tl := ⟨_, rfl⟩
          have Htl := Lib.hid htl
          go_loopw [6] (fun i wq => ∃ k : Nat, k ≤ 28 ∧ i = .int .i64 k ∧ LabAt wq g5 v (B.toldTo (B.tail s) k) ∧ OptAt wq w.heap.size 130 s ∧ LabAt wq (w.heap.size + 1) 0 0 ∧ Below w.heap.size w wq) (fun i _ => 28 - (intOf i).toNat)
          case atStart => exact ⟨0, by omega, rfl, HB.out, hO2.out, hL2.out, hb2⟩
          case round =>
            obtain ⟨k, hk, rfl, hB, hO, hL, hbq⟩ := hrel
            clear HB hO2 hL2 hb2
            have hbqs := hbq.size
            have HB := Lib.hid hB
            have HO := Lib.hid hO
            have HL := Lib.hid hL
            have hdata := hO.data
            have zB := hB.lt
            have zO' := hO.lt
            have zL' := hL.lt
            clear hB hO hL
            by_cases hgo : k < 28 ∧ k / 7 + 1 < s.size
            · obtain ⟨hk28, hin⟩ := hgo
              have hk28' : (k : Int) < 28 := by omega
              have hin' : (k : Int) / 7 + 1 < (s.size : Int) := by omega
              have Htb : Hid (B.tb (B.tail s) k = (s.data.toList.getD (k / 7 + 1) 0).toNat.testBit (7 - k % 7)) := Lib.hid (by unfold B.tb; rw [decide_eq_true (by omega), Bool.true_and, B.tail_get s (k / 7) hin])
              have Hn := Lib.hid (show B.toldTo (B.tail s) (k + 1) = if B.tb (B.tail s) k then B.toldTo (B.tail s) k ||| C.one k else B.toldTo (B.tail s) k from rfl)
              have HP := Lib.hid (fun wx => Put_any (B.toldTo (B.tail s) k) (k : Int) true wx)
              have hone : C.put (B.toldTo (B.tail s) k) (k : Int) true = B.toldTo (B.tail s) k ||| C.one k := by unfold C.put C.oneI; simp
              rw [hone] at HP
              clear hone
              obtain ⟨x, hx⟩ : ∃ x, s.data.toList.getD (k / 7 + 1) 0 = x := ⟨_, rfl⟩
              have hix : ∀ wx : World, (Instr.index 9 (.string s) (.int .i64 ((k : Int) / 7 + 1))).run Try.prog wx = .ok (.int .u8 (x.toNat : Nat)) wx := fun wx => by
                rw [run_index_string wx _ _ _ _ Try.underlying9, dif_pos ⟨by omega, by omega⟩]
                have e : ((k : Int) / 7 + 1).toNat = k / 7 + 1 := by omega
                have : s[((k : Int) / 7 + 1).toNat]'(by omega) = x := by
                  rw [← hx, List.getD_eq_getElem?_getD, List.getElem?_eq_getElem (by rw [Array.length_toList]; exact hin)]
                  simp only [e]
                  rfl
                rw [this]
              rw [hx] at Htb
              clear hx
              have hbit := shr_bit x.toNat (k % 7) _ Htb.out.symm
              have hand := and_one8 x.toNat (7 - k % 7) x.toNat_lt
              rw [hbit] at hand
              generalize B.toldTo (B.tail s) k = m at *
              clear hbit
              cases ht : B.tb (B.tail s) k
              · rw [ht, if_neg (by decide)] at hand
                have Ht := Lib.hid ht
                clear ht Htb
                go_wp2
                go_roundw
                case rel => exact ⟨k + 1, by omega, by go_num, by rw [Hn.out, Ht.out]; exact HB.out, HO.out, HL.out, hbq⟩
                case measure => simp [intOf]; omega
              · rw [ht, if_pos rfl] at hand
                have Ht := Lib.hid ht
                clear ht Htb
                go_wp2_with (refine load_labcats rfl rfl rfl HB.out ?_)
                refine (HP.out _).mono ?_
                rintro e w5 ⟨rfl, hb5⟩
                have HB5 := Lib.hid (HB.out.below hb5 zB)
                have HO5 := Lib.hid (HO.out.below hb5 zO')
                have HL5 := Lib.hid (HL.out.below hb5 zL')
                have hbw5 := hbq.trans (hb5.mono hbqs)
                clear hb5 HB HO HL hbq
                go_wp2_with (refine store_labcats rfl rfl rfl rfl HB5.out ?_; intro w6 hs ho; have HB6 := Lib.hid hs; have ho6 := Lib.hid ho; clear hs ho)
                go_roundw
                case rel => exact ⟨k + 1, by omega, by go_num, by rw [Hn.out, Ht.out]; exact HB6.out, HO5.out.only ho6.out (by omega), HL5.out.only ho6.out (by omega), hbw5.trans (ho6.out.below (by omega))⟩
                case measure => simp [intOf]; omega
            · have hm : B.toldTo (B.tail s) k = B.told (B.tail s) := by
                by_cases h28 : k = 28
                · subst h28; rfl
                · have := B.told_stop (B.tail s) k (by omega) (28 - k)
                  rw [show k + (28 - k) = 28 by omega] at this
                  exact this.symm
              have HB' : Hid (LabAt wr g5 v (B.told (B.tail s))) := Lib.hid (by rw [← hm]; exact HB.out)
              clear HB hm
              have HE := Lib.hid (fun wx => refData_any (v : Int) (B.told (B.tail s)) wx (B.toldTo_lt _ 28))
              have hE0 := B.told_err v (B.tail s) hv4
              have hst : B.str v (B.told (B.tail s)) = B.dat v (B.told (B.tail s)) := by unfold B.str; rw [if_pos hE0]
              rw [hE0, hst] at HE
              have Hok := Lib.hid (fun h => B.ok_of v hv4 s h)
              have Hno' := Hno
              clear hE0 hst htl Htl
              generalize hmm : B.told (B.tail s) = m at *
              have Hmm := Lib.hid hmm
              clear hmm
              generalize hdd : B.dat v m = dd at *
              have Hdd := Lib.hid hdd
              clear hdd
              have hgo2 : k = 28 ∨ (k < 28 ∧ s.size ≤ k / 7 + 1) := by omega
              rcases hgo2 with rfl | ⟨hk28, hin⟩
              all_goals
                try have hk28' : (k : Int) < 28 := by omega
                try have hin' : ¬ (k : Int) / 7 + 1 < (s.size : Int) := by omega
                clear hgo
                go_wp2_with (refine load_lab rfl rfl rfl HB'.out ?_)
                refine (HE.out _).mono ?_
                rintro e w5 ⟨rfl, hb5⟩
                have HB5 := Lib.hid (HB'.out.below hb5 zB)
                have HO5 := Lib.hid (HO.out.below hb5 zO')
                have HL5 := Lib.hid (HL.out.below hb5 zL')
                have hbw5 := hbq.trans (hb5.mono hbqs)
                have hdata5 := HO5.out.data
                clear hb5 HB' HO HL hbq hdata HE
                by_cases hsame : dd = s
                · have Hk2 := Lib.hid (Hok.out hsame)
                  subst hsame
                  go_wp2_with (first | (refine load_lab rfl rfl rfl HB5.out ?_) | (refine store_lab rfl rfl rfl rfl HL5.out ?_; intro w7 hs ho; have HL7 := Lib.hid hs; have ho7 := Lib.hid ho; clear hs ho))
                  exact ret_lab_tmp rfl rfl rfl rfl HL7.out ⟨by rw [← HDZ.out, ← HDN.out, ← HDE.out, G1.out, G2.out, G3.out, Hk2.out.1, Hk2.out.2]; rfl, hbw5.trans (ho7.out.below (by omega))⟩
                · have hneq : ¬ dd.toList = s.toList := fun h => hsame (by
                    rw [Lib.toList_data, Lib.toList_data] at h
                    exact ByteArray.ext (Array.toList_inj.1 h))
                  have hneb : (dd.toList == s.toList) = false := by rw [beq_eq_false_iff_ne]; exact hneq
                  go_wp2
                  go_roundw
                  case rel => exact ⟨v + 1, by omega, by go_num, fun z hz => by
                    by_cases e : z = v
                    · subst e; rw [Hmm.out, Hdd.out]; exact hsame
                    · rw [Hmm.out]; exact Hno.out z (by omega), HO5.out, HL5.out, hbw5⟩
                  case measure => simp [intOf]; omega
        · obtain rfl : v = 4 := by omega
          have Gk := Lib.hid (B.no_of s (fun z hz => Hno.out z hz))
          go_wp2_with (rw [L.zero31]; refine store_lab rfl rfl rfl rfl HL.out ?_; intro w7 hs ho; have HL7 := Lib.hid hs; have ho7 := Lib.hid ho; clear hs ho)
          exact ret_lab_tmp rfl rfl rfl rfl HL7.out ⟨by rw [← HDZ.out, ← HDN.out, ← HDE.out, G1.out, G2.out, G3.out, Gk.out]; rfl, hb.trans (ho7.out.below (by omega))⟩
  · have G1 : Hid (B.decZ k s = 0) := Lib.hid (by unfold B.decZ; rw [if_neg hk])
    have G2 : Hid (B.decN k s = 0) := Lib.hid (by unfold B.decN; rw [if_neg hk])
    have G3 : Hid (B.decE k s = 3) := Lib.hid (by unfold B.decE; rw [if_neg hk])
    unfold opv at *
    go_enter Try.func11, Try.ntmps11
    go_wp2_with (rw [L.zero31]; refine store_lab rfl rfl rfl rfl HL.out ?_; intro w3 hs ho; have HL3 := Lib.hid hs; have ho3 := Lib.hid ho; clear hs ho)
    exact ret_lab_tmp rfl rfl rfl rfl HL3.out ⟨by rw [← HDZ.out, ← HDN.out, ← HDE.out, G1.out, G2.out, G3.out]; rfl, hb0.trans (ho3.out.below (by omega))⟩
#print axioms refDec_any
end Go.Proofs.Ytmaddfjgiflkbaa
