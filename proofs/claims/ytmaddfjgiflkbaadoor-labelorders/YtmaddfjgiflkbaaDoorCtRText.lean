/- The walk of the document's text of a set. -/
import Derived.Test.YtmaddfjgiflkbaaDoorCtNum
namespace Go.Proofs.YtmaddfjgiflkbaaDoor
set_option maxRecDepth 100000
open Go.RowKit
set_option maxRecDepth 100000
set_option linter.unusedVariables false

theorem RHas_is (n : Nat) (k : Int) (b : Bool) (w : World) (h : C.has n k = b) :
    Calls Tryd.prog 19 #[.agg (C.cv n), .int .i64 k] w fun e w' => e = .returned (.bool b) ∧ Below w.heap.size w w' := by
  subst h; exact RHas_any n k w
theorem has_nat (n k : Nat) : C.has n (k : Int) = C.hasN n k := by unfold C.has; simp
theorem has_pr (n k : Nat) : C.has n ((k : Int) - 1) = C.pr n k := by
  cases k with
  | zero => rfl
  | succ j => rw [show ((j + 1 : Nat) : Int) - 1 = (j : Int) by omega, has_nat]; rfl
theorem has_pr2 (n k : Nat) : C.has n ((k : Int) - 2) = C.pr2 n k := by
  cases k with
  | zero => rfl
  | succ j => rw [show ((j + 1 : Nat) : Int) - 2 = (j : Int) - 1 by omega, has_pr]; rfl
theorem has_nx (n k : Nat) : C.has n ((k : Int) + 1) = C.hasN n (k + 1) := by
  rw [show (k : Int) + 1 = ((k + 1 : Nat) : Int) by omega, has_nat]

/-- A list's bytes as a text. -/
def bs (l : List UInt8) : ByteArray := ⟨l.toArray⟩
theorem bs_list (l : List UInt8) : (bs l).data.toList = l := rfl
theorem bs_size (l : List UInt8) : (bs l).size = l.length := rfl
theorem bs_append (s t : List UInt8) : bs s ++ bs t = bs (s ++ t) := by
  apply ByteArray.ext
  rw [ByteArray.data_append]
  apply Array.toList_inj.1
  rw [Array.toList_append, bs_list, bs_list, bs_list]
theorem bs_empty (l : List UInt8) : (bs l).toList.isEmpty = l.isEmpty := by rw [Lib.toList_data]; rfl
theorem dig_dec (k : Nat) : C.dig k = Lib.decDigits k := by
  unfold C.dig Lib.itoa
  rw [if_neg (by omega)]
  rfl
theorem dig_len (k : Nat) (h : k < 256) : (C.dig k).length ≤ 3 := by
  have : (List.range 256).all (fun k => decide ((C.dig k).length ≤ 3)) = true := by kernel_rfl
  exact of_decide_eq_true (List.all_eq_true.1 this k (List.mem_range.2 h))
theorem number_is (k : Nat) (w : World) (h : k < 256) :
    Calls Tryd.prog 37 #[.int .i64 k] w fun e w' => e = .returned (.string (bs (C.dig k))) ∧ Below w.heap.size w w' := by
  rw [dig_dec]; exact number10_any k w (by omega)
namespace C
theorem refStep_len (n : Nat) (s : List UInt8) (k : Nat) (h : k < 240) : (refStep n s k).length ≤ s.length + 4 := by
  have hd := dig_len k (by omega)
  unfold refStep
  split
  · omega
  · split
    · omega
    · split <;> (simp only [List.length_append, List.length_cons]; omega)
theorem refTo_len (n : Nat) : ∀ k, k ≤ 240 → (refTo n k).length ≤ 4 * k
  | 0, _ => by simp [refTo]
  | k + 1, h => by
    have h1 := refTo_len n k (by omega)
    have h2 := refStep_len n (refTo n k) k (by omega)
    show (refStep n (refTo n k) k).length ≤ _
    omega
theorem st_skip {n k : Nat} {s : List UInt8} (h : hasN n k = false ∨ (pr n k = true ∧ hasN n (k + 1) = true)) : refStep n s k = s := by unfold refStep; rw [if_pos h]
theorem st_new {n k : Nat} {s : List UInt8} (h : ¬ (hasN n k = false ∨ (pr n k = true ∧ hasN n (k + 1) = true))) (hs : s = []) : refStep n s k = dig k := by unfold refStep; rw [if_neg h, if_pos hs]
theorem st_to {n k : Nat} {s : List UInt8} (h : ¬ (hasN n k = false ∨ (pr n k = true ∧ hasN n (k + 1) = true))) (hs : s ≠ []) (hp : pr n k = true ∧ pr2 n k = true) : refStep n s k = s ++ [45] ++ dig k := by unfold refStep; rw [if_neg h, if_neg hs, if_pos hp]; simp
theorem st_more {n k : Nat} {s : List UInt8} (h : ¬ (hasN n k = false ∨ (pr n k = true ∧ hasN n (k + 1) = true))) (hs : s ≠ []) (hp : ¬ (pr n k = true ∧ pr2 n k = true)) : refStep n s k = s ++ [44] ++ dig k := by unfold refStep; rw [if_neg h, if_neg hs, if_neg hp]; simp
end C

set_option maxHeartbeats 16000000 in
theorem RText_any (n : Nat) (w : World) :
    Calls Tryd.prog 26 #[.agg (C.cv n)] w fun e w' => e = .returned (.string (bs (C.text n))) ∧ Below w.heap.size w w' := by
  obtain ⟨R, hR⟩ : ∃ R, bs (C.text n) = R := ⟨_, rfl⟩
  have HR := Lib.hid hR
  rw [hR]
  clear hR
  have H0 := Lib.hid (SetAt.new w n)
  go_enter Tryd.func26, Tryd.ntmps26
  go_wp2
  go_loopw [3, 4] (fun s i wr => ∃ k : Nat, k ≤ 240 ∧ i = .int .i64 k ∧ s = .string (bs (C.refTo n k)) ∧ SetAt wr w.heap.size n ∧ Below w.heap.size w wr) (fun _ i _ => 240 - (intOf i).toNat)
  case atStart => exact ⟨0, by omega, rfl, rfl, H0.out, (Below.refl _ w).alloc (Nat.le_refl _) _⟩
  case round =>
    obtain ⟨k, hk, rfl, rfl, hs, hb⟩ := hrel
    clear H0
    have hlen := C.refTo_len n k hk
    by_cases hlt : k < 240
    · have hk' : (k : Int) < 240 := by omega
      have E0 := Lib.hid (has_nat n k)
      have E1 := Lib.hid (has_pr n k)
      have E2 := Lib.hid (has_nx n k)
      have E3 := Lib.hid (has_pr2 n k)
      have HT := Lib.hid (show C.refTo n (k + 1) = C.refStep n (C.refTo n k) k from rfl)
      have Hd := Lib.hid (fun w => number_is k w (by omega))
      have hdl := dig_len k (by omega)
      generalize C.refTo n k = s at *
      have hz1 : (bs s).size ≤ 960 := by rw [bs_size]; omega
      have hz2 : (bs (C.dig k)).size ≤ 3 := by rw [bs_size]; omega
      have hse := bs_empty s
      have HS := Lib.hid hs
      have hsl := hs.lt
      have hbs := hb.size
      clear hs
      cases h0 : C.hasN n k
      · have X0 := Lib.hid h0; clear h0
        go_wp2_with (refine load_set rfl rfl rfl HS.out ?_)
        refine (RHas_is n _ false _ (E0.out.trans X0.out)).mono ?_
        rintro e v1 ⟨rfl, hq⟩
        have hb1 := hb.trans (hq.mono hb.size)
        have HS1 := Lib.hid (HS.out.below hq HS.out.lt)
        clear hq HS hb
        go_wp2
        go_roundw
        case rel => exact ⟨k + 1, by omega, by go_num, by rw [HT.out, C.st_skip (.inl X0.out)], HS1.out, hb1⟩
        case measure => simp [intOf]; omega
      · have X0 := Lib.hid h0; clear h0
        cases h1 : C.pr n k
        · have X1 := Lib.hid h1; clear h1
          go_wp2_with (refine load_set rfl rfl rfl HS.out ?_)
          refine (RHas_is n _ true _ (E0.out.trans X0.out)).mono ?_
          rintro e v1 ⟨rfl, hq⟩
          have hb1 := hb.trans (hq.mono hb.size)
          have HS1 := Lib.hid (HS.out.below hq HS.out.lt)
          clear hq HS hb
          go_wp2_with (refine load_set rfl rfl rfl HS1.out ?_)
          refine (RHas_is n _ false _ (E1.out.trans X1.out)).mono ?_
          rintro e v2 ⟨rfl, hq⟩
          have hb2 := hb1.trans (hq.mono hb1.size)
          have HS2 := Lib.hid (HS1.out.below hq HS1.out.lt)
          clear hq HS1 hb1
          have KP := Lib.hid (by rw [X0.out, X1.out]; simp : ¬ (C.hasN n k = false ∨ (C.pr n k = true ∧ C.hasN n (k + 1) = true)))
          cases hn : s.isEmpty
          · have Hn : Hid (s ≠ []) := Lib.hid (by intro e; rw [e] at hn; simp at hn)
            rw [hn] at hse; clear hn
            go_wp2_with (refine load_set rfl rfl rfl HS2.out ?_)
            refine (RHas_is n _ false _ (E1.out.trans X1.out)).mono ?_
            rintro e v3 ⟨rfl, hq⟩
            have hb3 := hb2.trans (hq.mono hb2.size)
            have HS3 := Lib.hid (HS2.out.below hq HS2.out.lt)
            clear hq HS2 hb2
            have hl1 : ByteArray.size (⟨#[44]⟩ : ByteArray) = 1 := rfl
            go_wp2_with fail
            refine (Hd.out _).mono ?_
            rintro e v4 ⟨rfl, hq⟩
            have hb4 := hb3.trans (hq.mono hb3.size)
            have HS4 := Lib.hid (HS3.out.below hq HS3.out.lt)
            clear hq HS3 hb3
            go_wp2
            go_roundw
            case rel => exact ⟨k + 1, by omega, by go_num, by rw [HT.out, C.st_more KP.out Hn.out (by rw [X1.out]; simp), ← bs_append, ← bs_append]; rfl, HS4.out, hb4⟩
            case measure => simp [intOf]; omega
          · have Hn : Hid (s = []) := Lib.hid (List.isEmpty_iff.1 hn)
            rw [hn] at hse; clear hn
            go_wp2_with fail
            refine (Hd.out _).mono ?_
            rintro e v3 ⟨rfl, hq⟩
            have hb3 := hb2.trans (hq.mono hb2.size)
            have HS3 := Lib.hid (HS2.out.below hq HS2.out.lt)
            clear hq HS2 hb2
            go_wp2
            go_roundw
            case rel => exact ⟨k + 1, by omega, by go_num, by rw [HT.out, C.st_new KP.out Hn.out], HS3.out, hb3⟩
            case measure => simp [intOf]; omega
        · have X1 := Lib.hid h1; clear h1
          go_wp2_with (refine load_set rfl rfl rfl HS.out ?_)
          refine (RHas_is n _ true _ (E0.out.trans X0.out)).mono ?_
          rintro e v1 ⟨rfl, hq⟩
          have hb1 := hb.trans (hq.mono hb.size)
          have HS1 := Lib.hid (HS.out.below hq HS.out.lt)
          clear hq HS hb
          go_wp2_with (refine load_set rfl rfl rfl HS1.out ?_)
          refine (RHas_is n _ true _ (E1.out.trans X1.out)).mono ?_
          rintro e v2 ⟨rfl, hq⟩
          have hb2 := hb1.trans (hq.mono hb1.size)
          have HS2 := Lib.hid (HS1.out.below hq HS1.out.lt)
          clear hq HS1 hb1
          cases h2 : C.hasN n (k + 1)
          · have X2 := Lib.hid h2; clear h2
            go_wp2_with (refine load_set rfl rfl rfl HS2.out ?_)
            refine (RHas_is n _ false _ (E2.out.trans X2.out)).mono ?_
            rintro e v3 ⟨rfl, hq⟩
            have hb3 := hb2.trans (hq.mono hb2.size)
            have HS3 := Lib.hid (HS2.out.below hq HS2.out.lt)
            clear hq HS2 hb2
            have KP := Lib.hid (by rw [X0.out, X2.out]; simp : ¬ (C.hasN n k = false ∨ (C.pr n k = true ∧ C.hasN n (k + 1) = true)))
            cases hn : s.isEmpty
            · have Hn : Hid (s ≠ []) := Lib.hid (by intro e; rw [e] at hn; simp at hn)
              rw [hn] at hse; clear hn
              go_wp2_with (refine load_set rfl rfl rfl HS3.out ?_)
              refine (RHas_is n _ true _ (E1.out.trans X1.out)).mono ?_
              rintro e v4 ⟨rfl, hq⟩
              have hb4 := hb3.trans (hq.mono hb3.size)
              have HS4 := Lib.hid (HS3.out.below hq HS3.out.lt)
              clear hq HS3 hb3
              cases h3 : C.pr2 n k
              · have X3 := Lib.hid h3; clear h3
                go_wp2_with (refine load_set rfl rfl rfl HS4.out ?_)
                refine (RHas_is n _ false _ (E3.out.trans X3.out)).mono ?_
                rintro e v5 ⟨rfl, hq⟩
                have hb5 := hb4.trans (hq.mono hb4.size)
                have HS5 := Lib.hid (HS4.out.below hq HS4.out.lt)
                clear hq HS4 hb4
                have hl1 : ByteArray.size (⟨#[44]⟩ : ByteArray) = 1 := rfl
                go_wp2_with fail
                refine (Hd.out _).mono ?_
                rintro e v6 ⟨rfl, hq⟩
                have hb6 := hb5.trans (hq.mono hb5.size)
                have HS6 := Lib.hid (HS5.out.below hq HS5.out.lt)
                clear hq HS5 hb5
                go_wp2
                go_roundw
                case rel => exact ⟨k + 1, by omega, by go_num, by rw [HT.out, C.st_more KP.out Hn.out (by rw [X3.out]; simp), ← bs_append, ← bs_append]; rfl, HS6.out, hb6⟩
                case measure => simp [intOf]; omega
              · have X3 := Lib.hid h3; clear h3
                go_wp2_with (refine load_set rfl rfl rfl HS4.out ?_)
                refine (RHas_is n _ true _ (E3.out.trans X3.out)).mono ?_
                rintro e v5 ⟨rfl, hq⟩
                have hb5 := hb4.trans (hq.mono hb4.size)
                have HS5 := Lib.hid (HS4.out.below hq HS4.out.lt)
                clear hq HS4 hb4
                have hl1 : ByteArray.size (⟨#[45]⟩ : ByteArray) = 1 := rfl
                go_wp2_with fail
                refine (Hd.out _).mono ?_
                rintro e v6 ⟨rfl, hq⟩
                have hb6 := hb5.trans (hq.mono hb5.size)
                have HS6 := Lib.hid (HS5.out.below hq HS5.out.lt)
                clear hq HS5 hb5
                go_wp2
                go_roundw
                case rel => exact ⟨k + 1, by omega, by go_num, by rw [HT.out, C.st_to KP.out Hn.out ⟨X1.out, X3.out⟩, ← bs_append, ← bs_append]; rfl, HS6.out, hb6⟩
                case measure => simp [intOf]; omega
            · have Hn : Hid (s = []) := Lib.hid (List.isEmpty_iff.1 hn)
              rw [hn] at hse; clear hn
              go_wp2_with fail
              refine (Hd.out _).mono ?_
              rintro e v4 ⟨rfl, hq⟩
              have hb4 := hb3.trans (hq.mono hb3.size)
              have HS4 := Lib.hid (HS3.out.below hq HS3.out.lt)
              clear hq HS3 hb3
              go_wp2
              go_roundw
              case rel => exact ⟨k + 1, by omega, by go_num, by rw [HT.out, C.st_new KP.out Hn.out], HS4.out, hb4⟩
              case measure => simp [intOf]; omega
          · have X2 := Lib.hid h2; clear h2
            go_wp2_with (refine load_set rfl rfl rfl HS2.out ?_)
            refine (RHas_is n _ true _ (E2.out.trans X2.out)).mono ?_
            rintro e v3 ⟨rfl, hq⟩
            have hb3 := hb2.trans (hq.mono hb2.size)
            have HS3 := Lib.hid (HS2.out.below hq HS2.out.lt)
            clear hq HS2 hb2
            go_wp2
            go_roundw
            case rel => exact ⟨k + 1, by omega, by go_num, by rw [HT.out, C.st_skip (.inr ⟨X1.out, X2.out⟩)], HS3.out, hb3⟩
            case measure => simp [intOf]; omega
    · obtain rfl : k = 240 := by omega
      have hse := bs_empty (C.refTo n 240)
      have HTx := Lib.hid (show C.text n = if C.refTo n 240 = [] then [45] else C.refTo n 240 from rfl)
      generalize C.refTo n 240 = s at *
      clear hs
      cases hn : s.isEmpty
      · have Hn : Hid (s ≠ []) := Lib.hid (by intro e; rw [e] at hn; simp at hn)
        rw [hn] at hse; clear hn
        go_wp2
        go_ret
        exact ⟨by rw [← HR.out, HTx.out, if_neg Hn.out]; rfl, hb⟩
      · have Hn : Hid (s = []) := Lib.hid (List.isEmpty_iff.1 hn)
        rw [hn] at hse; clear hn
        go_wp2
        go_ret
        exact ⟨by rw [← HR.out, HTx.out, if_pos Hn.out]; rfl, hb⟩
#print axioms RText_any
end Go.Proofs.YtmaddfjgiflkbaaDoor
