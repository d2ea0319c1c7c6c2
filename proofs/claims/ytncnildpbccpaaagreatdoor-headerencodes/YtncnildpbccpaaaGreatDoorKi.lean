/- The walk of what each header has. -/
import Derived.Test.YtncnildpbccpaaaGreatDoorKh
import Derived.Test.YtncnildpbccpaaaGreatDoorKa
import Derived.Deep.RegionWith
import Derived.Deep.DeepCutAuto
set_option maxRecDepth 100000
namespace Go.Proofs.YtncnildpbccpaaaGreatDoor
open Go.RowKit

/-- What a header must not be. -/
def H.off (s : List UInt8) : Prop := H.g s 0 / 16 ≠ 4 ∨ H.hl s < 20 ∨ 32768 ≤ H.sh s 6

/-- What the reader of a datagram holds before it begins. -/
def cs0 (r : Nat) (s : List UInt8) : Array Value := #[.pointer (some ⟨r, 0, none⟩), .string (ba s), .int .i64 0, .int .i64 0, .int .i64 0, .int .i64 0, .bool false, .bool false, .int .i64 0, .int .i64 0, .int .i64 0, .int .u32 0, .int .u32 0, .slice none 0 0, .string ⟨#[]⟩]

/-- What it holds behind the fixed part. -/
def cs1 (r : Nat) (s : List UInt8) : Array Value := #[.pointer (some ⟨r, 0, none⟩), .string (ba s), .int .i64 (H.hl s), .int .i64 (H.sh s 2), .int .i64 (H.g s 1), .int .i64 (H.sh s 4), .bool (H.sh s 6 / 16384 % 2 == 1), .bool (H.sh s 6 / 8192 % 2 == 1), .int .i64 ((H.sh s 6 % 8192 * 8 : Nat) : Int), .int .i64 (H.g s 8), .int .i64 (H.g s 9), .int .u32 (H.wd s 12), .int .u32 (H.wd s 16), .slice none 0 0, .string ⟨#[]⟩]

/-- How the fixed part ends. -/
def Fixed (base p r : Nat) (s : List UInt8) (w : World) (e : Ending) (w' : World) : Prop :=
  (s.length < 20 ∧ e = .returned (.int .i64 2) ∧ Below base w w') ∨ (20 ≤ s.length ∧ H.off s ∧ e = .returned (.int .i64 3) ∧ Below base w w') ∨
    (20 ≤ s.length ∧ ¬ H.off s ∧ e = .returned (.int .i64 0) ∧ Hd base p r s 20 (cs1 r s) w' ∧ Below base w w')

set_option maxHeartbeats 8000000 in
theorem fixed_any (base p r : Nat) (s : List UInt8) (w : World) (h : Hd base p r s 0 (cs0 r s) w) (hs : s.length ≤ 90000) :
    Calls Tryz.prog 45 #[.pointer (some ⟨p, 0, none⟩)] w (Fixed base p r s w) := by
  have G2 : Hid (∀ w', s.length < 20 → Below base w w' → Fixed base p r s w (.returned (.int .i64 2)) w') := Lib.hid fun w' h1 h2 => .inl ⟨h1, rfl, h2⟩
  have G3 : Hid (∀ w', 20 ≤ s.length → H.off s → Below base w w' → Fixed base p r s w (.returned (.int .i64 3)) w') := Lib.hid fun w' h1 h2 h3 => .inr (.inl ⟨h1, h2, rfl, h3⟩)
  have G0 : Hid (∀ w', 20 ≤ s.length → ¬ H.off s → Hd base p r s 20 (cs1 r s) w' → Below base w w' → Fixed base p r s w (.returned (.int .i64 0)) w') := Lib.hid fun w' h1 h2 h3 h4 => .inr (.inr ⟨h1, h2, rfl, h3, h4⟩)
  generalize hG : Fixed base p r s w = G at *
  clear hG
  unfold cs0 at h
  have b0 := H.val_lt1 s 0
  have b1 := H.val_lt1 s 1
  have b2 := H.val_lt2 s 2
  have b4 := H.val_lt2 s 4
  have b6 := H.val_lt2 s 6
  have b8 := H.val_lt1 s 8
  have b9 := H.val_lt1 s 9
  have b12 := H.val_lt4 s 12
  have b16 := H.val_lt4 s 16
  have H0 := Lib.hid h
  have c0 := h.at 0 _ rfl
  clear h
  go_enter Tryz.func45, Tryz.ntmps45
  go_wp2
  go_region_with ((go_at_call 60; refine (hbyte base p r s 0 _ _ (by exact H0.out.draw) hs).mono ?_; rintro e w1 ⟨rfl, h1, hb1⟩))
  have hb : Below base w w1 := ((Below.refl _ w).drew).trans hb1
  clear c0
  have c0 := h1.at 0 (.pointer (some ⟨r, 0, none⟩)) rfl
  have H1 := Lib.hid h1
  clear h1 hb1 H0
  go_wp2_with fail
  refine (hbyte base p r s 1 _ _ H1.out hs).mono ?_
  rintro e w2 ⟨rfl, h2, hbn⟩
  clear c0
  have c0 := h2.at 0 (.pointer (some ⟨r, 0, none⟩)) rfl
  have ci := h2.at 4 (.int .i64 0) rfl
  have fi := h2.fz 4
  obtain ⟨hs0, hbs0⟩ := h2.store 4 (.int .i64 ((H.val s 1 1 : Nat) : Int)) #[.pointer (some ⟨r, 0, none⟩), .string (ba s), .int .i64 0, .int .i64 0, .int .i64 ((H.val s 1 1 : Nat) : Int), .int .i64 0, .bool false, .bool false, .int .i64 0, .int .i64 0, .int .i64 0, .int .u32 0, .int .u32 0, .slice none 0 0, .string ⟨#[]⟩] rfl
  have H2 := Lib.hid hs0
  have hbx := (hb.trans hbn).trans hbs0
  clear hbn H1 h2 hs0 hbs0 hb
  go_wp2_with fail
  clear ci fi
  have hb := hbx
  clear hbx
  go_wp2_with fail
  refine (hshort base p r s 2 _ _ H2.out hs).mono ?_
  rintro e w3 ⟨rfl, h3, hbn⟩
  clear c0
  have c0 := h3.at 0 (.pointer (some ⟨r, 0, none⟩)) rfl
  have ci := h3.at 3 (.int .i64 0) rfl
  have fi := h3.fz 3
  obtain ⟨hs0, hbs0⟩ := h3.store 3 (.int .i64 ((H.val s 2 2 : Nat) : Int)) #[.pointer (some ⟨r, 0, none⟩), .string (ba s), .int .i64 0, .int .i64 ((H.val s 2 2 : Nat) : Int), .int .i64 ((H.val s 1 1 : Nat) : Int), .int .i64 0, .bool false, .bool false, .int .i64 0, .int .i64 0, .int .i64 0, .int .u32 0, .int .u32 0, .slice none 0 0, .string ⟨#[]⟩] rfl
  have H3 := Lib.hid hs0
  have hbx := (hb.trans hbn).trans hbs0
  clear hbn H2 h3 hs0 hbs0 hb
  go_wp2_with fail
  clear ci fi
  have hb := hbx
  clear hbx
  go_wp2_with fail
  refine (hshort base p r s 4 _ _ H3.out hs).mono ?_
  rintro e w4 ⟨rfl, h4, hbn⟩
  clear c0
  have c0 := h4.at 0 (.pointer (some ⟨r, 0, none⟩)) rfl
  have ci := h4.at 5 (.int .i64 0) rfl
  have fi := h4.fz 5
  obtain ⟨hs0, hbs0⟩ := h4.store 5 (.int .i64 ((H.val s 4 2 : Nat) : Int)) #[.pointer (some ⟨r, 0, none⟩), .string (ba s), .int .i64 0, .int .i64 ((H.val s 2 2 : Nat) : Int), .int .i64 ((H.val s 1 1 : Nat) : Int), .int .i64 ((H.val s 4 2 : Nat) : Int), .bool false, .bool false, .int .i64 0, .int .i64 0, .int .i64 0, .int .u32 0, .int .u32 0, .slice none 0 0, .string ⟨#[]⟩] rfl
  have H4 := Lib.hid hs0
  have hbx := (hb.trans hbn).trans hbs0
  clear hbn H3 h4 hs0 hbs0 hb
  go_wp2_with fail
  clear ci fi
  have hb := hbx
  clear hbx
  go_wp2_with fail
  refine (hshort base p r s 6 _ _ H4.out hs).mono ?_
  rintro e w5 ⟨rfl, h5, hbn⟩
  clear c0
  have c0 := h5.at 0 (.pointer (some ⟨r, 0, none⟩)) rfl
  have H5 := Lib.hid h5
  have hbx := hb.trans hbn
  clear hbn H4 h5 hb
  have hb := hbx
  clear hbx
  go_upto_region 6 with fail
  go_cut [] (fun wr => Hd base p r s 10 #[.pointer (some ⟨r, 0, none⟩), .string (ba s), .int .i64 0, .int .i64 ((H.val s 2 2 : Nat) : Int), .int .i64 ((H.val s 1 1 : Nat) : Int), .int .i64 ((H.val s 4 2 : Nat) : Int), .bool false, .bool false, .int .i64 0, .int .i64 ((H.val s 8 1 : Nat) : Int), .int .i64 ((H.val s 9 1 : Nat) : Int), .int .u32 0, .int .u32 0, .slice none 0 0, .string ⟨#[]⟩] wr ∧ Below base w wr)
  case first =>
    go_region_with (first
      | ((go_at_call 60; refine (hbyte base p r s 8 _ _ (by exact H5.out.draw) hs).mono ?_; rintro e w6 ⟨rfl, h6, hbn1⟩; have c1 := h6.at 0 (.pointer (some ⟨r, 0, none⟩)) rfl))
      | ((go_at_call 60; refine (hbyte base p r s 9 _ _ (by exact h6) hs).mono ?_; rintro e w7 ⟨rfl, h7, hbn⟩; have ca := h7.at 9 (.int .i64 0) rfl; have cb := h7.at 10 (.int .i64 0) rfl; have fa := h7.fz 9; have fb := h7.fz 10)))
    all_goals go_wp2_with fail
    all_goals go_meet
    all_goals first
      | exact ⟨((h7.store 9 (.int .i64 ((H.val s 8 1 : Nat) : Int)) _ rfl).1.store 10 (.int .i64 ((H.val s 9 1 : Nat) : Int)) _ rfl).1, (((hb.drew.trans hbn1).trans hbn).trans (h7.store 9 (.int .i64 ((H.val s 8 1 : Nat) : Int)) _ rfl).2).trans ((h7.store 9 (.int .i64 ((H.val s 8 1 : Nat) : Int)) _ rfl).1.store 10 (.int .i64 ((H.val s 9 1 : Nat) : Int)) _ rfl).2⟩
      | exact ⟨((h7.store 10 (.int .i64 ((H.val s 9 1 : Nat) : Int)) _ rfl).1.store 9 (.int .i64 ((H.val s 8 1 : Nat) : Int)) _ rfl).1, (((hb.drew.trans hbn1).trans hbn).trans (h7.store 10 (.int .i64 ((H.val s 9 1 : Nat) : Int)) _ rfl).2).trans ((h7.store 10 (.int .i64 ((H.val s 9 1 : Nat) : Int)) _ rfl).1.store 9 (.int .i64 ((H.val s 8 1 : Nat) : Int)) _ rfl).2⟩
  clear c0 hb H5
  obtain ⟨h7, hb⟩ := hcut
  generalize wc = w7 at *
  have c0 := h7.at 0 (.pointer (some ⟨r, 0, none⟩)) rfl
  have H7 := Lib.hid h7
  clear h7
  go_wp2_with fail
  refine (hshort base p r s 10 _ _ H7.out hs).mono ?_
  rintro e w8 ⟨rfl, h8, hbn⟩
  clear c0
  have c0 := h8.at 0 (.pointer (some ⟨r, 0, none⟩)) rfl
  have H8 := Lib.hid h8
  have hbx := hb.trans hbn
  clear hbn H7 h8 hb
  have hb := hbx
  clear hbx
  go_upto_region 8 with fail
  go_cut [] (fun wr => Hd base p r s 20 #[.pointer (some ⟨r, 0, none⟩), .string (ba s), .int .i64 0, .int .i64 ((H.val s 2 2 : Nat) : Int), .int .i64 ((H.val s 1 1 : Nat) : Int), .int .i64 ((H.val s 4 2 : Nat) : Int), .bool false, .bool false, .int .i64 0, .int .i64 ((H.val s 8 1 : Nat) : Int), .int .i64 ((H.val s 9 1 : Nat) : Int), .int .u32 ((H.val s 12 4 : Nat) : Int), .int .u32 ((H.val s 16 4 : Nat) : Int), .slice none 0 0, .string ⟨#[]⟩] wr ∧ Below base w wr)
  case first =>
    go_region_with (first
      | ((go_at_call 62; refine (hword base p r s 12 _ _ (by exact H8.out.draw) hs).mono ?_; rintro e w9 ⟨rfl, h9, hbn1⟩; have c1 := h9.at 0 (.pointer (some ⟨r, 0, none⟩)) rfl))
      | ((go_at_call 62; refine (hword base p r s 16 _ _ (by exact h9) hs).mono ?_; rintro e w10 ⟨rfl, h10, hbn⟩; have ca := h10.at 11 (.int .u32 0) rfl; have cb := h10.at 12 (.int .u32 0) rfl; have fa := h10.fz 11; have fb := h10.fz 12)))
    all_goals go_wp2_with fail
    all_goals go_meet
    all_goals first
      | exact ⟨((h10.store 11 (.int .u32 ((H.val s 12 4 : Nat) : Int)) _ rfl).1.store 12 (.int .u32 ((H.val s 16 4 : Nat) : Int)) _ rfl).1, (((hb.drew.trans hbn1).trans hbn).trans (h10.store 11 (.int .u32 ((H.val s 12 4 : Nat) : Int)) _ rfl).2).trans ((h10.store 11 (.int .u32 ((H.val s 12 4 : Nat) : Int)) _ rfl).1.store 12 (.int .u32 ((H.val s 16 4 : Nat) : Int)) _ rfl).2⟩
      | exact ⟨((h10.store 12 (.int .u32 ((H.val s 16 4 : Nat) : Int)) _ rfl).1.store 11 (.int .u32 ((H.val s 12 4 : Nat) : Int)) _ rfl).1, (((hb.drew.trans hbn1).trans hbn).trans (h10.store 12 (.int .u32 ((H.val s 16 4 : Nat) : Int)) _ rfl).2).trans ((h10.store 12 (.int .u32 ((H.val s 16 4 : Nat) : Int)) _ rfl).1.store 11 (.int .u32 ((H.val s 12 4 : Nat) : Int)) _ rfl).2⟩
  clear c0 hb H8
  obtain ⟨h10, hb⟩ := hcut
  generalize wc = w10 at *
  have c0 := h10.at 0 (.pointer (some ⟨r, 0, none⟩)) rfl
  have H10 := Lib.hid h10
  clear h10
  go_wp2_with fail
  refine (hok base p r s 20 _ _ H10.out).mono ?_
  rintro e w11 ⟨rfl, rfl⟩
  by_cases hlen : 20 ≤ s.length
  · rw [decide_eq_true hlen]
    have hh := H10.out
    rw [H.val_1 s 1 (by omega), H.val_2 s 2 (by omega), H.val_2 s 4 (by omega), H.val_1 s 8 (by omega), H.val_1 s 9 (by omega), H.val_4 s 12 (by omega), H.val_4 s 16 (by omega)] at hh
    rw [H.val_1 s 0 (by omega), H.val_2 s 6 (by omega)]
    have hf := H.g_lt s 0
    have hq := H.sh_lt s 6
    have Hcs : Hid (cs1 r s = #[.pointer (some ⟨r, 0, none⟩), .string (ba s), .int .i64 ((4 * (H.g s 0 % 16) : Nat) : Int), .int .i64 (H.sh s 2), .int .i64 (H.g s 1), .int .i64 (H.sh s 4), .bool (H.sh s 6 / 16384 % 2 == 1), .bool (H.sh s 6 / 8192 % 2 == 1), .int .i64 ((H.sh s 6 % 8192 * 8 : Nat) : Int), .int .i64 (H.g s 8), .int .i64 (H.g s 9), .int .u32 (H.wd s 12), .int .u32 (H.wd s 16), .slice none 0 0, .string ⟨#[]⟩]) := Lib.hid rfl
    have Hoff : Hid (H.off s ↔ (H.g s 0 / 16 ≠ 4 ∨ 4 * (H.g s 0 % 16) < 20 ∨ 32768 ≤ H.sh s 6)) := Lib.hid Iff.rfl
    generalize H.g s 0 = f at *
    generalize H.sh s 6 = q at *
    have k1 := and_15 f (by omega)
    have k2 := and_8191 q hq
    have k3 : (bits .and .i64 (q : Int) 16384 != 0) = (q / 16384 % 2 == 1) := by rw [and_16384 q hq, Bool.eq_iff_iff, bne_iff_ne, beq_iff_eq]; omega
    have k4 : (bits .and .i64 (q : Int) 8192 != 0) = (q / 8192 % 2 == 1) := by rw [and_8192 q hq, Bool.eq_iff_iff, bne_iff_ne, beq_iff_eq]; omega
    have k5 : (bits .and .i64 (q : Int) 32768 != 0) = decide (32768 ≤ q) := by rw [and_32768 q hq, Bool.eq_iff_iff, bne_iff_ne, decide_eq_true_iff]; omega
    have h4 : f % 16 < 16 := by omega
    have h8 : q % 8192 < 8192 := by omega
    have Hm4 := Lib.hid (show 4 * (f % 16) = f % 16 * 4 by omega)
    generalize f % 16 = f4 at *
    generalize q % 8192 = q13 at *
    generalize (q / 16384 % 2 == 1) = D at *
    generalize (q / 8192 % 2 == 1) = E at *
    have e2 := hh.at 2 (.int .i64 0) rfl
    have e6 := hh.at 6 (.bool false) rfl
    have e7 := hh.at 7 (.bool false) rfl
    have e8 := hh.at 8 (.int .i64 0) rfl
    have d2 := hh.fz 2
    have d6 := hh.fz 6
    have d7 := hh.fz 7
    have d8 := hh.fz 8
    obtain ⟨s2, t2⟩ := hh.store 2 (.int .i64 ((f4 : Int) * 4)) _ rfl
    obtain ⟨s6, t6⟩ := s2.store 6 (.bool D) _ rfl
    obtain ⟨s7, t7⟩ := s6.store 7 (.bool E) _ rfl
    obtain ⟨s8, t8⟩ := s7.store 8 (.int .i64 ((q13 : Int) * 8)) _ rfl
    have hbz := (((hb.trans t2).trans t6).trans t7).trans t8
    have Hz := Lib.hid s8
    clear hb H10 hh s2 s6 s7 s8 t2 t6 t7 t8 b0 b1 b2 b4 b6 b8 b9 b12 b16
    by_cases hv : f / 16 = 4
    · have v1 : ((f : Int) / 16 != 4) = false := by rw [bne_eq_false_iff_eq]; omega
      by_cases hl : f4 * 4 < 20
      · go_wp2
        exact G3.out _ hlen (Hoff.out.2 (.inr (.inl (by omega)))) hbz
      · by_cases hn : 32768 ≤ q
        · have n1 : decide (32768 ≤ q) = true := decide_eq_true hn
          go_wp2
          exact G3.out _ hlen (Hoff.out.2 (.inr (.inr hn))) hbz
        · have n1 : decide (32768 ≤ q) = false := decide_eq_false hn
          go_wp2
          refine G0.out _ hlen (fun ho => ?_) ?_ hbz
          · rcases Hoff.out.1 ho with h | h | h <;> omega
          · rw [Hcs.out, Hm4.out]
            exact Hz.out
    · have v1 : ((f : Int) / 16 != 4) = true := by rw [bne_iff_ne]; omega
      go_wp2
      exact G3.out _ hlen (Hoff.out.2 (.inl hv)) hbz
  · rw [decide_eq_false hlen]
    go_wp2
    exact G2.out _ (by omega) hb
#print axioms fixed_any
end Go.Proofs.YtncnildpbccpaaaGreatDoor

