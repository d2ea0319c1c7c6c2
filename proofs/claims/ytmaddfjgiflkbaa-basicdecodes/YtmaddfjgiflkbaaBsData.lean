/- The walk of the document's answer for an option's data. -/
import Derived.Test.YtmaddfjgiflkbaaBsAuth
import Derived.Test.YtmaddfjgiflkbaaBsFits
namespace Go.Proofs.Ytmaddfjgiflkbaa
open Go.RowKit
set_option maxRecDepth 100000
set_option linter.unusedVariables false

namespace B
open C
/-- The error's number. -/
def errN (z : Int) (n : Nat) : Nat := if 0 ≤ z ∧ z ≤ 255 then (if fits z n then 0 else 5) else 1
/-- An option's data. -/
def dat (z : Int) (n : Nat) : ByteArray := nb (lb z :: au n)
def str (z : Int) (n : Nat) : ByteArray := if errN z n = 0 then dat z n else ⟨#[]⟩
theorem v_step (n q j : Nat) (hq : q ≤ 3) (hj : j < 7) : v n q / 2 ^ (6 - j) = 2 * (v n q / 2 ^ (7 - j)) + (hasN n (7 * q + j)).toNat := by
  have h1 : v n q / 2 ^ (7 - j) = v n q / 2 ^ (6 - j) / 2 := by rw [Nat.div_div_eq_div_mul, ← Nat.pow_succ, show (6 - j).succ = 7 - j by omega]
  have h2 : hasN n (7 * q + j) = decide (v n q / 2 ^ (6 - j) % 2 = 1) := by rw [← v_bit n q j hq hj, Nat.testBit_eq_decide_div_mod_eq]
  rw [h1, h2]
  generalize v n q / 2 ^ (6 - j) = a
  by_cases h : a % 2 = 1
  · rw [decide_eq_true h]; simp; omega
  · rw [decide_eq_false h]; simp; omega
theorem v_first (n q : Nat) : v n q / 2 ^ 7 = 0 := Nat.div_eq_of_lt (v_lt n q)
theorem lb_zero (z : Int) : lb z = 0 ↔ ¬ (0 ≤ z ∧ z < 4) := by
  unfold lb
  split
  · subst_vars; simp
  · split
    · subst_vars; simp
    · split
      · subst_vars; simp
      · split
        · subst_vars; simp
        · constructor
          · intro _ h; omega
          · intro _; rfl
theorem lb_lt (z : Int) : lb z < 256 := by unfold lb; split <;> (try split) <;> (try split) <;> (try split) <;> omega
/-- The document's buffer. -/
def fb (z : Int) (n q : Nat) : List Value := .int .u8 (lb z : Nat) :: (List.range q).map fun i => .int .u8 (ab n i : Nat)
theorem fb_len (z : Int) (n q : Nat) : (fb z n q).length = q + 1 := by simp [fb]
theorem fb_more (z : Int) (n q : Nat) : fb z n q ++ [.int .u8 (ab n q : Nat)] = fb z n (q + 1) := by
  unfold fb
  rw [List.range_succ, List.map_append]
  rfl
theorem fb_end (z : Int) (n : Nat) : fb z n (len n) = (lb z :: au n).map fun (x : Nat) => Value.int .u8 (x : Int) := by
  unfold fb au
  rw [List.map_cons, List.map_map]
  rfl
theorem ab_is (n q : Nat) : ab n q = 2 * v n q + if q + 1 < len n then 1 else 0 := rfl
end B

theorem VBuf.away_lab {base : Nat} {ao : Option Addr} {cap : Nat} {vs : List Value} {w : World} {g n : Nat} {z : Int} {e : TypeId} (h : VBuf e base ao cap vs w) (hs : LabAt w g z n) (he : e ≠ 25) : some g ≠ Value.ownBlock (.slice ao vs.length cap) := fun hg => by
  rcases h.2 with ⟨hv, hn⟩ | ⟨g', cap', cur, hv, hbg, hg', _⟩
  · rw [hv] at hg; cases hg
  · rw [hv] at hg
    have e1 : g = g' := by simpa [Value.ownBlock] using hg
    subst e1
    unfold LabAt at hs
    rw [hs] at hg'
    injection hg' with hg'
    injection hg' with _ ht
    exact he ht.symm

set_option maxHeartbeats 8000000 in
theorem refData_any (z : Int) (n : Nat) (w : World) (hn : n < 2 ^ 240) :
    Calls Try.prog 7 #[.agg (L.lv z n)] w fun e w' => e = .returned (.tuple #[.string (B.str z n), .int .i64 (B.errN z n : Nat)]) ∧ Below w.heap.size w w' := by
  have HB := Lib.hid (LabAt.new w z n)
  have hb0 : Below w.heap.size w (w.alloc (.cells (L.lv z n) 25)) := (Below.refl _ w).alloc (Nat.le_refl _) _
  have hlv := HB.out.level
  obtain ⟨S, hS⟩ : ∃ S, B.str z n = S := ⟨_, rfl⟩
  obtain ⟨E, hE⟩ : ∃ E, B.errN z n = E := ⟨_, rfl⟩
  have HS := Lib.hid hS
  have HE := Lib.hid hE
  rw [hS, hE]
  clear hS hE
  by_cases h0 : z < 0
  · have G1 : Hid (B.errN z n = 1) := Lib.hid (by unfold B.errN; rw [if_neg (by omega)])
    have G2 : Hid (B.str z n = ⟨#[]⟩) := Lib.hid (by unfold B.str; rw [G1.out]; rfl)
    clear HB
    go_enter Try.func7, Try.ntmps7
    go_wp2
    go_ret2
    exact ⟨by rw [← HS.out, ← HE.out, G1.out, G2.out]; rfl, hb0⟩
  by_cases h1 : 255 < z
  · have G1 : Hid (B.errN z n = 1) := Lib.hid (by unfold B.errN; rw [if_neg (by omega)])
    have G2 : Hid (B.str z n = ⟨#[]⟩) := Lib.hid (by unfold B.str; rw [G1.out]; rfl)
    clear HB
    go_enter Try.func7, Try.ntmps7
    go_wp2
    go_ret2
    exact ⟨by rw [← HS.out, ← HE.out, G1.out, G2.out]; rfl, hb0⟩
  go_enter Try.func7, Try.ntmps7
  go_wp2
  clear hlv
  go_loopw [4, 5] (fun c i wr => ∃ k : Nat, k ≤ 240 ∧ i = .int .i64 k ∧ c = .int .i64 (C.mostTo n k) ∧ LabAt wr w.heap.size z n ∧ Below w.heap.size w wr) (fun _ i _ => 240 - (intOf i).toNat)
  case atStart => exact ⟨0, by omega, rfl, rfl, HB.out, hb0⟩
  case round =>
    obtain ⟨k, hk, rfl, rfl, hs, hb⟩ := hrel
    clear HB hb0
    have hbs := hb.size
    by_cases hlt : k < 240
    · have hk' : (k : Int) < 240 := by omega
      have Hm := Lib.hid (show C.mostTo n (k + 1) = if C.hasN n k then (k : Int) else C.mostTo n k from rfl)
      generalize C.mostTo n k = c at *
      have HL := Lib.hid hs
      have hsl := hs.lt
      clear hs
      cases hq : C.hasN n k
      all_goals
        have Hq := Lib.hid hq
        go_wp2_with (refine load_labcats rfl rfl rfl HL.out ?_)
        refine (RHas_in n k _ hlt _ hq).mono ?_
        rintro e w2 ⟨rfl, hb2⟩
        have hbw := hb.trans (hb2.mono hbs)
        have HL2 := Lib.hid (HL.out.below hb2 hsl)
        clear hb2 hq hb
        go_wp2
        go_roundw
        case rel => exact ⟨k + 1, by omega, by go_num, by rw [Hm.out, Hq.out]; rfl, HL2.out, hbw⟩
        case measure => simp [intOf]; omega
    · obtain rfl : k = 240 := by omega
      have hlv := hs.level
      have HL := Lib.hid hs
      have hsl := hs.lt
      clear hs
      have Hlen : Hid (B.len n = ((C.mostTo n 240 + 7) / 7).toNat) := Lib.hid rfl
      have HF : Hid (B.fits z n = (decide (0 ≤ z) && (decide (z < 4) && decide (C.mostTo n 240 ≤ 27)))) := Lib.hid rfl
      have hge := (C.mostTo_ge n 240).1
      by_cases h4 : z < 4
      · have hlb : Hid (B.lb z ≠ 0) := Lib.hid (fun e => (B.lb_zero z).1 e ⟨by omega, h4⟩)
        have hlt8 := B.lb_lt z
        by_cases h27 : C.mostTo n 240 ≤ 27
        · have G0 : Hid (B.errN z n = 0) := Lib.hid (by unfold B.errN; rw [if_pos ⟨by omega, by omega⟩, HF.out, decide_eq_true (show 0 ≤ z by omega), decide_eq_true h4, decide_eq_true h27]; rfl)
          have G2 : Hid (B.str z n = nb (B.lb z :: B.au n)) := Lib.hid (by unfold B.str; rw [G0.out, if_pos rfl]; rfl)
          have hl4 := B.len_le n h27
          have Habs := Lib.hid (fun q => B.ab_is n q)
          have Hend := Lib.hid (B.fb_end z n)
          have hlast : Hid (∀ q : Nat, ((7 * q : Nat) : Int) ≤ C.mostTo n 240 ↔ q < B.len n) := Lib.hid (fun q => by have := Hlen.out; omega)
          have Hbyte := Lib.hid (fun w => refByte_any z w)
          have hall : Hid (∀ x ∈ B.lb z :: B.au n, x < 256) := Lib.hid (fun x hx => by
            rcases List.mem_cons.1 hx with rfl | hx
            · exact hlt8
            · unfold B.au at hx
              obtain ⟨i, _, rfl⟩ := List.mem_map.1 hx
              exact B.ab_lt n i)
          clear HF Hlen
          have Hfb0 : Hid (B.fb z n 0 = [.int .u8 (B.lb z : Nat)]) := Lib.hid rfl
          generalize hms : C.mostTo n 240 = ms at *
          clear hms
          have hne : (((B.lb z : Nat) : Int) == 0) = false := by have := hlb.out; rw [beq_eq_false_iff_ne]; omega
          have h27' : ¬ (27 : Int) < ms := by omega
          generalize B.lb z = bz at *
          have hbuf0 : VBuf 5 w.heap.size (some ⟨wr.heap.size, 0, none⟩) 1 [.int .u8 (bz : Nat)] (wr.alloc (.cells #[.int .u8 (bz : Nat)] 5)) := World.ownsRow_lit (base := w.heap.size) wr #[.int .u8 (bz : Nat)] 1 hbs (by unfold maxLen; omega) rfl
          have HL1 := Lib.hid (HL.out.alloc (.cells #[.int .u8 (bz : Nat)] 5))
          have hb1 : Below w.heap.size w (wr.alloc (.cells #[.int .u8 (bz : Nat)] 5)) := hb.alloc hbs _
          clear hlb hlt8 HL hb
          go_wp2_with fail
          refine (Hbyte.out _).mono ?_
          rintro e w3 ⟨rfl, rfl⟩
          go_wp2_with fail
          refine (Hbyte.out _).mono ?_
          rintro e w3 ⟨rfl, rfl⟩
          go_wp2
          go_loopw [6, 7] (fun s i wq => ∃ (q : Nat) (ao : Option Addr) (cp : Nat), q ≤ B.len n ∧ i = .int .i64 ((7 * q : Nat) : Int) ∧ s = .slice ao (B.fb z n q).length cp ∧ VBuf 5 w.heap.size ao cp (B.fb z n q) wq ∧ LabAt wq w.heap.size z n ∧ Below w.heap.size w wq) (fun _ i _ => 7 * B.len n - (intOf i).toNat)
          case atStart => exact ⟨0, _, _, Nat.zero_le _, rfl, rfl, by rw [Hfb0.out]; exact hbuf0, HL1.out, hb1⟩
          case round =>
            obtain ⟨q, ao, cp, hq, rfl, rfl, hbuf, hL, hbq⟩ := hrel
            clear hbuf0 HL1 hb1
            have hbqs := hbq.size
            have hq7 := hlast.out q
            have hq8 := hlast.out (q + 1)
            have HL := Lib.hid hL
            have hLl := hL.lt
            clear hL
            by_cases hlt : q < B.len n
            · have hc : ((7 * q : Nat) : Int) ≤ ms := hq7.2 hlt
              have hq3 : q ≤ 3 := by omega
              have hv := B.v_lt n q
              have Hst := Lib.hid (fun j (hj : j < 7) => B.v_step n q j hq3 hj)
              have Hfirst := Lib.hid (B.v_first n q)
              have Hmore := Lib.hid (B.fb_more z n q)
              have Hab := Lib.hid (Habs.out q)
              have Hfl := Lib.hid (B.fb_len z n q)
              generalize B.v n q = vq at *
              generalize hkk : 7 * q = kk at *
              have hkk' : kk ≤ 21 := by omega
              have Hkk := Lib.hid hkk
              clear hkk
              go_wp2
              go_loopw [8, 9] (fun x i wp => ∃ j : Nat, j ≤ 7 ∧ i = .int .i64 j ∧ x = .int .i64 ((vq / 2 ^ (7 - j) : Nat) : Int) ∧ LabAt wp w.heap.size z n ∧ VBuf 5 w.heap.size ao cp (B.fb z n q) wp ∧ Below w.heap.size w wp) (fun _ i _ => 7 - (intOf i).toNat)
              case atStart => exact ⟨0, by omega, rfl, by rw [Hfirst.out]; rfl, HL.out, hbuf, hbq⟩
              case round =>
                obtain ⟨j, hj, rfl, rfl, hL, hbuf2, hbj⟩ := hrel
                clear hbuf HL hbq
                have hbjs := hbj.size
                have HL := Lib.hid hL
                have hLl := hL.lt
                by_cases hj7 : j < 7
                · have hj' : (j : Int) < 7 := by omega
                  have Hj := Lib.hid (Hst.out j hj7)
                  have hx : vq / 2 ^ (7 - j) ≤ 127 := Nat.le_trans (Nat.div_le_self _ _) (by omega)
                  generalize vq / 2 ^ (7 - j) = x at *
                  clear hL
                  cases hh : C.hasN n (kk + j)
                  all_goals
                    have Hh := Lib.hid hh
                    have hkj : (((kk + j : Nat)) : Int) = (kk : Int) + (j : Int) := by omega
                    have Hc := Lib.hid (fun wx => RHas_in n (kk + j) wx (by omega) _ hh)
                    rw [hkj] at Hc
                    clear hh
                    go_wp2_with (refine load_labcats rfl rfl rfl HL.out ?_)
                    refine (Hc.out _).mono ?_
                    rintro e w5 ⟨rfl, hb5⟩
                    have hbw := hbj.trans (hb5.mono hbjs)
                    have HL5 := Lib.hid (HL.out.below hb5 hLl)
                    have hbuf5 := hbuf2.carry hb5
                    clear hb5 hbuf2 hbj
                    go_wp2
                    go_roundw
                    case rel => exact ⟨j + 1, by omega, by go_num, by rw [show 7 - (j + 1) = 6 - j by omega, Hj.out, Hh.out]; simp, HL5.out, hbuf5, hbw⟩
                    case measure => simp [intOf]; omega
                · obtain rfl : j = 7 := by omega
                  have e1 : vq / 2 ^ (7 - 7) = vq := by simp
                  rw [e1]
                  clear e1
                  have hfl := Hfl.out
                  by_cases hnx : q + 1 < B.len n
                  · have hc2 : (kk : Int) + 7 ≤ ms := by have := hq8.2 hnx; have := Hkk.out; omega
                    have hab : Value.int .u8 (2 * (vq : Int) + 1) = .int .u8 (B.ab n q : Nat) := by rw [Hab.out, if_pos hnx]; rfl
                    obtain ⟨ao4, cp4, w4, hrun, hbuf4, hg⟩ := append_one 5 47 _ _ Try.underlying47 Try.info_u8 rfl (by omega) w.heap.size ao cp (B.fb z n q) (wr.alloc (.cells #[.int .u8 (2 * (vq : Int) + 1)] 5)) (hbuf2.alloc _) (.int .u8 (2 * (vq : Int) + 1)) rfl wr.heap.size (by simp) 47 (by omega) (by simp; omega)
                    have hb4 : Below w.heap.size w w4 := (hbj.alloc (by omega) _).grown hg (by simp; omega) hbuf2.own
                    have HL4 : Hid (LabAt w4 w.heap.size z n) := Lib.hid ((hg.block w.heap.size (by simp; omega) (hbuf2.away_lab hL (by decide))).trans (hL.alloc _))
                    have Hrun := Lib.hid hrun
                    rw [hab, Hmore.out] at hbuf4
                    have HB4 := Lib.hid hbuf4
                    have hfl2 : Hid ((B.fb z n q ++ [Value.int .u8 (2 * (vq : Int) + 1)]).length = (B.fb z n (q + 1)).length) := Lib.hid (by rw [hab, Hmore.out])
                    clear hrun hbuf4 hg hbuf2 hfl hL hab
                    go_wp2_with (at_builtin; refine listAppend rfl _ _ _ _ rfl _ _ rfl rfl _ _ Hrun.out ?_)
                    go_roundw
                    case rel => exact ⟨q + 1, ao4, cp4, by omega, by have := Hkk.out; rw [show 7 * (q + 1) = kk + 7 by omega]; go_num, by simp only [B.fb_len], HB4.out, HL4.out, hb4⟩
                    case measure => have := Hkk.out; simp [intOf]; omega
                  · have hc2 : ¬ (kk : Int) + 7 ≤ ms := fun h => hnx (hq8.1 (by have := Hkk.out; omega))
                    have hab : Value.int .u8 (2 * (vq : Int)) = .int .u8 (B.ab n q : Nat) := by rw [Hab.out, if_neg hnx]; rfl
                    obtain ⟨ao4, cp4, w4, hrun, hbuf4, hg⟩ := append_one 5 47 _ _ Try.underlying47 Try.info_u8 rfl (by omega) w.heap.size ao cp (B.fb z n q) (wr.alloc (.cells #[.int .u8 (2 * (vq : Int))] 5)) (hbuf2.alloc _) (.int .u8 (2 * (vq : Int))) rfl wr.heap.size (by simp) 47 (by omega) (by simp; omega)
                    have hb4 : Below w.heap.size w w4 := (hbj.alloc (by omega) _).grown hg (by simp; omega) hbuf2.own
                    have HL4 : Hid (LabAt w4 w.heap.size z n) := Lib.hid ((hg.block w.heap.size (by simp; omega) (hbuf2.away_lab hL (by decide))).trans (hL.alloc _))
                    have Hrun := Lib.hid hrun
                    rw [hab, Hmore.out] at hbuf4
                    have HB4 := Lib.hid hbuf4
                    have hfl2 : Hid ((B.fb z n q ++ [Value.int .u8 (2 * (vq : Int))]).length = (B.fb z n (q + 1)).length) := Lib.hid (by rw [hab, Hmore.out])
                    clear hrun hbuf4 hg hbuf2 hfl hL hab
                    go_wp2_with (at_builtin; refine listAppend rfl _ _ _ _ rfl _ _ rfl rfl _ _ Hrun.out ?_)
                    go_roundw
                    case rel => exact ⟨q + 1, ao4, cp4, by omega, by have := Hkk.out; rw [show 7 * (q + 1) = kk + 7 by omega]; go_num, by simp only [B.fb_len], HB4.out, HL4.out, hb4⟩
                    case measure => have := Hkk.out; simp [intOf]; omega
            · obtain rfl : q = B.len n := by omega
              have hc : ¬ ((7 * B.len n : Nat) : Int) ≤ ms := fun h => hlt (hq7.1 h)
              have hcv := hbuf.string (l := bz :: B.au n) Hend.out hall.out
              clear hbuf HL hlt hq7 hq8
              generalize hkk : 7 * B.len n = kk at *
              clear hkk
              generalize B.fb z n (B.len n) = vs at *
              go_wp2
              go_ret2
              exact ⟨by rw [← HS.out, ← HE.out, G0.out, G2.out]; rfl, hbq⟩
        · have G1 : Hid (B.errN z n = 5) := Lib.hid (by unfold B.errN; rw [if_pos ⟨by omega, by omega⟩, HF.out, decide_eq_false h27]; simp)
          have G2 : Hid (B.str z n = ⟨#[]⟩) := Lib.hid (by unfold B.str; rw [G1.out]; rfl)
          have Hbyte := Lib.hid (fun w => refByte_any z w)
          have hne : (((B.lb z : Nat) : Int) == 0) = false := by have := hlb.out; rw [beq_eq_false_iff_ne]; omega
          have h27' : (27 : Int) < C.mostTo n 240 := by omega
          clear HF Hlen HL
          generalize C.mostTo n 240 = ms at *
          generalize B.lb z = bz at *
          go_wp2_with fail
          refine (Hbyte.out _).mono ?_
          rintro e w3 ⟨rfl, rfl⟩
          go_wp2
          go_ret2
          exact ⟨by rw [← HS.out, ← HE.out, G1.out, G2.out]; rfl, hb⟩
      · have G1 : Hid (B.errN z n = 5) := Lib.hid (by unfold B.errN; rw [if_pos ⟨by omega, by omega⟩, HF.out, decide_eq_false h4]; simp)
        have G2 : Hid (B.str z n = ⟨#[]⟩) := Lib.hid (by unfold B.str; rw [G1.out]; rfl)
        have hz0 := (B.lb_zero z).2 (by omega)
        have Hbyte := Lib.hid (fun w => refByte_any z w)
        rw [hz0] at Hbyte
        clear HF Hlen HL hz0
        generalize C.mostTo n 240 = ms at *
        go_wp2_with fail
        refine (Hbyte.out _).mono ?_
        rintro e w3 ⟨rfl, rfl⟩
        go_wp2
        go_ret2
        exact ⟨by rw [← HS.out, ← HE.out, G1.out, G2.out]; rfl, hb⟩
#print axioms refData_any
end Go.Proofs.Ytmaddfjgiflkbaa
