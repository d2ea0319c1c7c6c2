/- SegmentBent: a bit turned, and read: UDP's check sum is 0 then. -/
import Derived.Test.YtohemlejceiojaaSgBentE
namespace Go.Proofs.Ytohemlejceiojaa
open Go.RowKit
set_option linter.unusedVariables false
set_option maxRecDepth 100000

set_option maxHeartbeats 1000000 in
theorem sbent_ok17 (src dst : Nat) (sp dp sq ak fl wi : Int) (at_ : Nat) (d : ByteArray) (w : World) (hd : ¬ 1000 < d.size) (hat : at_ < 65536) (s : ByteArray) (n : Nat) (hn : s.size = n) (hn1 : 8 ≤ n) (hn2 : n ≤ 3000) (y0 y1 y2 y3 y4 y5 : Int) (yd : ByteArray) (h6 : ((H.turn s.data.toList (at_ % (8 * n) / 8) (at_ % (8 * n) % 8)).getD 6 0).toNat = 0) (h7 : ((H.turn s.data.toList (at_ % (8 * n) / 8) (at_ % (8 * n) % 8)).getD 7 0).toNat = 0)
    (HE : Hid (∀ w', Calls Try.prog 6 #[.int .i64 17, .int .u32 src, .int .u32 dst, sg sp dp 0 0 0 0 d] w' fun e w'' => e = .returned (.tuple #[.string s, .int .i64 0]) ∧ Below w'.heap.size w' w''))
    (HP : Hid (∀ w', Calls Try.prog 9 #[.int .i64 17, .int .u32 src, .int .u32 dst, .string (ba (H.turn s.data.toList (at_ % (8 * n) / 8) (at_ % (8 * n) % 8)))] w' fun e w'' => e = .returned (.tuple #[sg y0 y1 y2 y3 y4 y5 yd, .int .i64 0]) ∧ Below w'.heap.size w' w'')) :
    Calls Try.prog 4 #[.bool true, .int .u32 src, .int .u32 dst, sg sp dp sq ak fl wi d, .int .u16 (at_ : Nat)] w fun e w' => e = .returned (.bool true) ∧ Below w.heap.size w w' := by
  have HA := Lib.hid seg_awake
  have hb0 : Below w.heap.size w (w.alloc (sgO sp dp 0 0 0 0 d)) := (Below.refl _ w).alloc (Nat.le_refl _) _
  have i1 : ¬ (1000 : Int) < (d.size : Int) := by omega
  have hne1 : ¬ s = (⟨#[]⟩ : ByteArray) := fun e => by rw [e] at hn; have h0 : (⟨#[]⟩ : ByteArray).size = 0 := rfl; omega
  have hne3 : s.toList.isEmpty = false := by
    rw [List.isEmpty_eq_false_iff, Lib.toList_data]
    intro e
    have := congrArg List.length e
    rw [Array.length_toList] at this
    exact absurd (show s.size = 0 from this) (by omega)
  have hK : at_ % (8 * n) < 8 * n := Nat.mod_lt _ (by omega)
  have hmod : (at_ : Int) % (8 * (n : Int)) = ((at_ % (8 * n) : Nat) : Int) := by rw [Int.natCast_emod]; simp
  have hmod2 : (at_ : Int).tmod (8 * (n : Int)) = ((at_ % (8 * n) : Nat) : Int) := by rw [Int.tmod_eq_emod_of_nonneg (by omega)]; exact hmod
  have hq0 : ¬ (8 * (n : Int)) = 0 := by omega
  have jw1 : IntKind.i64.wrap (8 * (n : Int)) = 8 * (n : Int) := IntWalk.i64_in _ (by omega)
  have jw0 : IntKind.i64.wrap (at_ : Int) = (at_ : Int) := IntWalk.i64_in _ (by omega)
  generalize hKe : at_ % (8 * n) = K at *
  have jw3 : IntKind.i64.wrap (K : Int) = (K : Int) := IntWalk.i64_in _ (by omega)
  have hdv : (K : Int) / 8 = ((K / 8 : Nat) : Int) := by omega
  have hmd : (K : Int) % 8 = ((K % 8 : Nat) : Int) := by omega
  have hjn : K / 8 < n := by omega
  have hb8 : K % 8 < 8 := by omega
  have Hb7 := Lib.hid (fun w => run_bytes_of_string (P := Try.prog) w 9 35 5 s Try.underlying9 Try.underlying35 Try.underlying5)
  go_enter Try.func4, Try.ntmps4
  go_wp2_with fail
  refine (HE.out _).mono ?_
  rintro e w2 ⟨rfl, hb2⟩
  have hb2w := hb0.trans (hb2.mono hb0.size)
  clear hb2 hb0 HE
  have hb7 := Hb7.out w2
  go_upto_region 2 with fail
  clear hb7 Hb7
  have hbs : n ≤ (bytesRow s (grownCap w2 n 0 5)).size := by unfold bytesRow; rw [Array.size_append, Array.size_map]; show n ≤ s.size + _; omega
  have hcell : ∀ i (hi : i < n), ((w2.alloc (.cells (bytesRow s (grownCap w2 n 0 5)) 5 ((bytesRow s (grownCap w2 n 0 5)).size, (bytesRow s (grownCap w2 n 0 5)).size + 1))).drew).cell? ⟨w2.heap.size, i, none⟩ = some (.int .u8 ((s.data[i]'(by rw [← hn] at hi; exact hi)).toNat : Int)) := fun i hi => (World.cell?_alloc_mark w2 _ _ _ i).trans (bytesRow_at s _ i (by rw [← hn] at hi; exact hi))
  have hfz : ∀ i, i < n → ((w2.alloc (.cells (bytesRow s (grownCap w2 n 0 5)) 5 ((bytesRow s (grownCap w2 n 0 5)).size, (bytesRow s (grownCap w2 n 0 5)).size + 1))).drew).frozen? ⟨w2.heap.size, i, none⟩ = false := fun i hi => (World.frozen?_alloc_mark w2 _ _ _ _ i).trans (by rw [decide_eq_false (by omega)]; rfl)
  have hb3w := (hb2w.alloc hb2w.size (.cells (bytesRow s (grownCap w2 n 0 5)) 5 ((bytesRow s (grownCap w2 n 0 5)).size, (bytesRow s (grownCap w2 n 0 5)).size + 1))).drew
  have hNB : w.heap.size ≤ w2.heap.size := hb2w.size
  have hsz3 : w2.heap.size < ((w2.alloc (.cells (bytesRow s (grownCap w2 n 0 5)) 5 ((bytesRow s (grownCap w2 n 0 5)).size, (bytesRow s (grownCap w2 n 0 5)).size + 1))).drew).heap.size := by simp
  generalize ((w2.alloc (.cells (bytesRow s (grownCap w2 n 0 5)) 5 ((bytesRow s (grownCap w2 n 0 5)).size, (bytesRow s (grownCap w2 n 0 5)).size + 1))).drew) = w3 at *
  generalize grownCap w2 n 0 5 = gc at *
  clear hb2w hbs
  generalize hBe : w2.heap.size = B at *
  have hj0 : K / 8 < s.data.size := by rw [← hn] at hjn; exact hjn
  obtain ⟨x, hxe⟩ : ∃ x : Nat, (s.data[K / 8]'hj0).toNat = x := ⟨_, rfl⟩
  have hx256 : x < 256 := by rw [← hxe]; exact UInt8.toNat_lt _
  have hcj : w3.cell? ⟨B, K / 8, none⟩ = some (.int .u8 (x : Nat)) := by rw [hcell _ hjn, hxe]
  have hfj := hfz _ hjn
  have hxor : bits .xor .u8 ((x : Nat) : Int) ((2 : Int) ^ (K % 8) % 256) = ((x ^^^ 2 ^ (K % 8) : Nat) : Int) := by
    have hp := pow_small (K % 8) hb8
    have e1 : (2 : Int) ^ (K % 8) % 256 = ((2 ^ (K % 8) : Nat) : Int) := by
      have e2 : (2 : Int) ^ (K % 8) = ((2 ^ (K % 8) : Nat) : Int) := by simp
      rw [e2]
      generalize 2 ^ (K % 8) = t at *
      omega
    rw [e1]
    exact u8_xor_nat x (2 ^ (K % 8)) hx256 (by omega)
  have hY256 : x ^^^ 2 ^ (K % 8) < 256 := (xor_nat x (K % 8) hx256 hb8).2
  have hTL : ∀ i (hi : i < n), ((H.turn s.data.toList (K / 8) (K % 8)).getD i 0).toNat = if i = K / 8 then x ^^^ 2 ^ (K % 8) else (s.data[i]'(by rw [← hn] at hi; exact hi)).toNat := fun i hi => by
    have hg : s.data.toList.getD (K / 8) 0 = s.data[K / 8]'hj0 := by rw [List.getD_eq_getElem?_getD, List.getElem?_eq_getElem (by rw [Array.length_toList]; exact hj0)]; simp
    rw [List.getD_eq_getElem?_getD]
    unfold H.turn
    rw [List.getElem?_set]
    by_cases hij : K / 8 = i
    · rw [if_pos hij, if_pos (by rw [Array.length_toList]; exact hj0), if_pos hij.symm, hg, hxe, Option.getD_some]
      exact (S.g_byte _).trans (Nat.mod_eq_of_lt hY256)
    · rw [if_neg hij, if_neg (Ne.symm hij), List.getElem?_eq_getElem (by rw [Array.length_toList]; rw [← hn] at hi; exact hi), Option.getD_some]
      simp
  have hTLn : (H.turn s.data.toList (K / 8) (K % 8)).length = n := by rw [H.turn_length, Array.length_toList]; exact hn
  generalize H.turn s.data.toList (K / 8) (K % 8) = TL at *
  generalize x ^^^ 2 ^ (K % 8) = Y at *
  have jx1 : (0 : Int) ≤ ((K / 8 : Nat) : Int) := by omega
  have jx2 : ((K / 8 : Nat) : Int) < (n : Int) := by omega
  generalize hje : K / 8 = j at *
  generalize hbe : K % 8 = bb at *
  refine region_quiet_tail 13 (by kernel_rfl) (by kernel_rfl) ?_
  simp only [List.take_succ_cons, List.take_zero, List.drop_succ_cons, List.drop_zero]
  repeat (go_big_quiet_step (fail))
  refine wpQuiet_nil ?_
  rintro _ ⟨nr, rfl⟩
  have hcell4 : ∀ i (hi : i < n), (w3.drewN nr).cell? ⟨B, i, none⟩ = some (.int .u8 ((s.data[i]'(by rw [← hn] at hi; exact hi)).toNat : Int)) := hcell
  have hcj4 : (w3.drewN nr).cell? ⟨B, j, none⟩ = some (.int .u8 (x : Nat)) := hcj
  have hfj4 : (w3.drewN nr).frozen? ⟨B, j, none⟩ = false := hfj
  have hb4w : Below w.heap.size w (w3.drewN nr) := belowNN hb3w nr
  generalize w3.drewN nr = w4 at *
  clear hcell hfz hcj hfj hb3w hsz3
  go_upto_region 16 with fail
  have hNB' : w.heap.size ≤ B := by omega
  have hb5w : Below w.heap.size w (w4.setCell ⟨B, j, none⟩ (.int .u8 (Y : Nat))) := hb4w.setCell hNB' _
  have hcv : (convert 35 9 (.slice (some ⟨B, 0, none⟩) n gc)).run Try.prog (w4.setCell ⟨B, j, none⟩ (.int .u8 (Y : Nat))) = .ok (.string ⟨TL.toArray⟩) (w4.setCell ⟨B, j, none⟩ (.int .u8 (Y : Nat))) := by
    have := run_convert_bytes_back (P := Try.prog) (w4.setCell ⟨B, j, none⟩ (.int .u8 (Y : Nat))) 35 9 5 ⟨B, 0, none⟩ gc TL Try.underlying35 Try.underlying5 Try.underlying9 (fun i hi => by
      have hgd : TL[i] = TL.getD i 0 := by rw [List.getD_eq_getElem?_getD, List.getElem?_eq_getElem hi]; rfl
      rw [hTLn] at hi
      rw [Addr.add_lit, Nat.zero_add, hgd, hTL i hi]
      by_cases hij : i = j
      · subst hij
        rw [if_pos rfl]
        exact World.cell?_setCell_same _ _ _ hcj4
      · rw [if_neg hij, World.cell?_setCell_other _ _ _ _ (fun e => hij (by cases e; rfl))]
        exact hcell4 i hi)
    rwa [hTLn] at this
  have hcT : ∀ i (hi : i < n), (w4.setCell ⟨B, j, none⟩ (.int .u8 (Y : Nat))).cell? ⟨B, i, none⟩ = some (.int .u8 ((TL.getD i 0).toNat : Int)) := fun i hi => by
    rw [hTL i hi]
    by_cases hij : i = j
    · subst hij
      rw [if_pos rfl]
      exact World.cell?_setCell_same _ _ _ hcj4
    · rw [if_neg hij, World.cell?_setCell_other _ _ _ _ (fun e => hij (by cases e; rfl))]
      exact hcell4 i hi
  have hc6 := hcT 6 (by omega)
  have hc7 := hcT 7 (by omega)
  rw [h6] at hc6
  rw [h7] at hc7
  clear hcT h6 h7
  have jy6 : (6 : Int) < (n : Int) := by omega
  have jy7 : (7 : Int) < (n : Int) := by omega
  clear hcell4 hcj4 hfj4 hb4w hTL hTLn hxor hY256
  generalize (w4.setCell ⟨B, j, none⟩ (.int .u8 (Y : Nat))) = w5 at *
  go_wp2_with fail
  refine (HP.out _).mono ?_
  rintro e w6 ⟨rfl, hb6⟩
  have hb6w := hb5w.trans (hb6.mono hb5w.size)
  obtain ⟨ob, hob⟩ : ∃ o, w5.heap[B]? = some o := by
    cases hh : w5.heap[B]? with
    | none => simp [World.cell?, hh] at hc6
    | some o => exact ⟨o, rfl⟩
  have e6 := hb6.block B (lt_of_block hob)
  have ea : (w6.alloc (.cells #[.int .i64 y0, .int .i64 y1, .int .u32 y2, .int .u32 y3, .int .i64 y4, .int .i64 y5, .string yd] 24)).heap[B]? = w5.heap[B]? := (Below.heap_alloc w6 _ _ (lt_of_block (e6.trans hob))).trans e6
  have ha6 : (w6.alloc (.cells #[.int .i64 y0, .int .i64 y1, .int .u32 y2, .int .u32 y3, .int .i64 y4, .int .i64 y5, .string yd] 24)).cell? ⟨B, 6, none⟩ = some (.int .u8 0) := by
    simp only [World.cell?] at hc6 ⊢
    rw [ea]
    exact hc6
  have ha7 : (w6.alloc (.cells #[.int .i64 y0, .int .i64 y1, .int .u32 y2, .int .u32 y3, .int .i64 y4, .int .i64 y5, .string yd] 24)).cell? ⟨B, 7, none⟩ = some (.int .u8 0) := by
    simp only [World.cell?] at hc7 ⊢
    rw [ea]
    exact hc7
  clear hb6 hb5w HP hcv e6 ea hob hc6 hc7
  go_wp2_with fail
  refine (HA.out _).mono ?_
  rintro e wA ⟨rfl, hbA⟩
  have hb7w := hb6w.alloc hb6w.size (sgO y0 y1 y2 y3 y4 y5 yd)
  have hbAw := hb7w.trans (hbA.mono hb7w.size)
  clear hbA hb6w hb7w
  go_wp2
  go_ret
  exact ⟨rfl, hbAw⟩
end Go.Proofs.Ytohemlejceiojaa
