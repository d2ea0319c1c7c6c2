/- The walks of the law's example, and of what reads authorities. -/
import Derived.Test.YtmaddfjgiflkbaaBsEnc
namespace Go.Proofs.Ytmaddfjgiflkbaa
open Go.RowKit
set_option maxRecDepth 100000
set_option linter.unusedVariables false

namespace B
open C
/-- Is a category's bit set? -/
def tb (s : ByteArray) (k : Nat) : Bool := decide (k / 7 < s.size) && (s.data.toList.getD (k / 7) 0).toNat.testBit (7 - k % 7)
def toldTo (s : ByteArray) : Nat → Nat
  | 0 => 0
  | k + 1 => if tb s k then toldTo s k ||| one k else toldTo s k
def told (s : ByteArray) : Nat := toldTo s 28
theorem toldTo_lt (s : ByteArray) : ∀ k, toldTo s k < 2 ^ 240
  | 0 => Nat.pow_pos (by decide)
  | k + 1 => by
    have := toldTo_lt s k
    unfold toldTo
    split
    · exact or_lt this (one_lt k)
    · exact this
theorem has_told (s : ByteArray) (j : Nat) : ∀ k, k ≤ 240 → hasN (toldTo s k) j = (decide (j < k) && tb s j)
  | 0, _ => by simp [toldTo, has_nothing]
  | k + 1, hk => by
    have := has_told s j k (by omega)
    simp only [toldTo]
    by_cases e : j = k
    · subst e
      cases ht : tb s j
      · simp [this, ht]
      · rw [if_pos rfl, has_plus1 _ _ _ (by omega), this]; simp
    · have hd : decide (j < k + 1) = decide (j < k) := by rw [decide_eq_decide]; omega
      rw [hd]
      split
      · rw [has_plus1 _ _ _ (by omega), this, decide_eq_false e, Bool.or_false]
      · exact this
theorem told_most (s : ByteArray) : mostTo (told s) 240 ≤ 27 := by
  by_cases h : 0 ≤ mostTo (told s) 240
  · have h1 := has_most (told s) 240 h
    unfold told at h1 h ⊢
    rw [has_told s _ 28 (by omega), Bool.and_eq_true, decide_eq_true_eq] at h1
    omega
  · omega
end B

theorem irow_one (w : World) (k : Nat) : IRow (w.alloc (.cells #[.int .i64 (k : Int)] 3)) (some ⟨w.heap.size, 0, none⟩) [(k : Int)] := fun _ => by
  refine ⟨w.heap.size, 0, rfl, by simp, fun q hq => ?_⟩
  obtain rfl : q = 0 := by simpa using hq
  simp
set_option maxHeartbeats 4000000 in
theorem told_any (s : ByteArray) (w : World) (hl : s.size ≤ 100000) :
    Calls Try.prog 20 #[.string s] w fun e w' => e = .returned (.agg (C.cv (B.told s))) ∧ Below w.heap.size w w' := by
  have H0 := Lib.hid ((SetAt.new w 0).alloc (.cells (C.cv 0) 23))
  have H1 := Lib.hid (SetAt.new (w.alloc (.cells (C.cv 0) 23)) 0)
  go_enter Try.func20, Try.ntmps20
  go_wp2
  rw [C.zero30]
  go_loopw [7] (fun i wr => ∃ k : Nat, k ≤ 28 ∧ i = .int .i64 k ∧ SetAt wr (w.heap.size + 1) (B.toldTo s k) ∧ SetAt wr w.heap.size 0 ∧ Below w.heap.size w wr) (fun i _ => 28 - (intOf i).toNat)
  case atStart => exact ⟨0, by omega, rfl, by have := H1.out; simpa [B.toldTo] using this, H0.out, ((Below.refl _ w).alloc (Nat.le_refl _) _).alloc (by simp) _⟩
  case round =>
    obtain ⟨k, hk, rfl, hs, hz, hb⟩ := hrel
    clear H0 H1
    have hbs := hb.size
    have HS := Lib.hid hs
    have HZ := Lib.hid hz
    have zs := hs.lt
    have zz := hz.lt
    clear hs hz
    by_cases hlt : k < 28
    · have hk' : (k : Int) < 28 := by omega
      have Hpl := Lib.hid (fun w => bplace_any k w (by omega))
      have Hn := Lib.hid (show B.toldTo s (k + 1) = if B.tb s k then B.toldTo s k ||| C.one k else B.toldTo s k from rfl)
      have Htb : Hid (B.tb s k = (decide (k / 7 < s.size) && (s.data.toList.getD (k / 7) 0).toNat.testBit (7 - k % 7))) := Lib.hid rfl
      have Hw := Lib.hid (fun r cap w' h => With_any (B.toldTo s k) (some ⟨r, 0, none⟩) cap [(k : Int)] w' h (by unfold maxLen; simp))
      have hone : C.plus (B.toldTo s k) [(k : Int)] = B.toldTo s k ||| C.one k := by unfold C.plus C.oneI; simp
      rw [hone] at Hw
      clear hone
      have hp8 : 2 ^ (7 - k % 7) < 256 := show 2 ^ (7 - k % 7) < 2 ^ 8 from Nat.pow_lt_pow_right (by decide) (by omega)
      have hp0 : 0 < 2 ^ (7 - k % 7) := Nat.pow_pos (by decide)
      generalize B.toldTo s k = m at *
      obtain ⟨i, hi⟩ : ∃ i, k / 7 = i := ⟨_, rfl⟩
      rw [hi] at Hpl Htb
      have hi4 : i ≤ 3 := by omega
      by_cases hin : i < s.size
      · obtain ⟨x, hx⟩ : ∃ x, s.data.toList.getD i 0 = x := ⟨_, rfl⟩
        have hix : ∀ w : World, (Instr.index 9 (.string s) (.int .i64 (i : Int))).run Try.prog w = .ok (.int .u8 (x.toNat : Nat)) w := fun w => by
          rw [run_index_string w _ _ _ _ Try.underlying9, dif_pos ⟨by omega, by omega⟩]
          have : s[(i : Int).toNat]'(by omega) = x := by
            rw [← hx, List.getD_eq_getElem?_getD, List.getElem?_eq_getElem (by rw [Array.length_toList]; exact hin)]
            rfl
          rw [this]
        have hua := u8_and x.toNat (2 ^ (7 - k % 7)) x.toNat_lt hp8
        rw [and_pow] at hua
        rw [hx, decide_eq_true hin, Bool.true_and] at Htb
        have hin' : (i : Int) < (s.size : Int) := by omega
        generalize 2 ^ (7 - k % 7) = p at *
        clear hx hi
        cases hbit : x.toNat.testBit (7 - k % 7)
        · have Ht : Hid (B.tb s k = false) := Lib.hid (by rw [Htb.out, hbit])
          rw [hbit, if_neg (by decide)] at hua
          clear Htb hbit Hw
          go_wp2_with fail
          refine (Hpl.out _).mono ?_
          rintro e w2 ⟨rfl, hb2⟩
          have hbw := hb.trans (hb2.mono hbs)
          have HS2 := Lib.hid (HS.out.below hb2 zs)
          have HZ2 := Lib.hid (HZ.out.below hb2 zz)
          clear hb2 HS HZ hb
          go_wp2
          go_roundw
          case rel => exact ⟨k + 1, by omega, by go_num, by rw [Hn.out, Ht.out]; exact HS2.out, HZ2.out, hbw⟩
          case measure => simp [intOf]; omega
        · have Ht : Hid (B.tb s k = true) := Lib.hid (by rw [Htb.out, hbit])
          rw [hbit, if_pos rfl] at hua
          have hp0' : ¬ ((p : Nat) : Int) = 0 := by omega
          have hpb : (((p : Nat) : Int) == 0) = false := by rw [beq_eq_false_iff_ne]; omega
          clear Htb hbit
          go_wp2_with fail
          refine (Hpl.out _).mono ?_
          rintro e w2 ⟨rfl, hb2⟩
          have hbw := hb.trans (hb2.mono hbs)
          have HS2 := Lib.hid (HS.out.below hb2 zs)
          have HZ2 := Lib.hid (HZ.out.below hb2 zz)
          have hz2 := hbw.size
          clear hb2 HS HZ hb
          go_wp2_with (refine load_set rfl rfl rfl HS2.out ?_)
          refine (Hw.out _ _ _ (irow_one w2 k)).mono ?_
          rintro e w3 ⟨rfl, hb3⟩
          have hb23 : Below w2.heap.size w2 w3 := ((Below.refl _ w2).alloc (Nat.le_refl _) _).trans (hb3.mono (by simp))
          have HS3 := Lib.hid (HS2.out.below hb23 HS2.out.lt)
          have HZ3 := Lib.hid (HZ2.out.below hb23 HZ2.out.lt)
          have hbw3 := hbw.trans (hb23.mono hz2)
          clear hb3 hb23 HS2 HZ2 hbw
          go_wp2_with (refine store_set rfl rfl rfl rfl HS3.out ?_; intro w4 hs4 ho4; have HS4 := Lib.hid hs4; have HO4 := Lib.hid ho4; clear hs4 ho4)
          go_roundw
          case rel => exact ⟨k + 1, by omega, by go_num, by rw [Hn.out, Ht.out]; exact HS4.out, HZ3.out.only HO4.out (by omega), hbw3.trans (HO4.out.below (by omega))⟩
          case measure => simp [intOf]; omega
      · have hin' : ¬ (i : Int) < (s.size : Int) := by omega
        have Ht : Hid (B.tb s k = false) := Lib.hid (by rw [Htb.out, decide_eq_false hin]; rfl)
        clear Htb hi Hw
        generalize 2 ^ (7 - k % 7) = p at *
        go_wp2_with fail
        refine (Hpl.out _).mono ?_
        rintro e w2 ⟨rfl, hb2⟩
        have hbw := hb.trans (hb2.mono hbs)
        have HS2 := Lib.hid (HS.out.below hb2 zs)
        have HZ2 := Lib.hid (HZ.out.below hb2 zz)
        clear hb2 HS HZ hb
        go_wp2
        go_roundw
        case rel => exact ⟨k + 1, by omega, by go_num, by rw [Hn.out, Ht.out]; exact HS2.out, HZ2.out, hbw⟩
        case measure => simp [intOf]; omega
    · obtain rfl : k = 28 := by omega
      go_wp2_with (first | (refine load_set rfl rfl rfl HS.out ?_) | (refine store_set rfl rfl rfl rfl HZ.out ?_; intro w2 hs2 ho2; have HS2 := Lib.hid hs2; have HO2 := Lib.hid ho2; clear hs2 ho2))
      exact ret_set rfl rfl rfl HS2.out ⟨rfl, hb.trans (HO2.out.below (by omega))⟩

theorem ex_set : C.put 0 8 true = C.one 8 := by kernel_rfl
theorem ex_err : B.errN 1 (C.one 8) = 0 := by kernel_rfl
theorem ex_kd : BsEnc.kd 1 (C.one 8) = 130 := by kernel_rfl
theorem ex_str : B.str 1 (C.one 8) = ⟨#[150, 1, 64]⟩ := by kernel_rfl
set_option maxHeartbeats 4000000 in
theorem bs_awake (w : World) :
    Calls Try.prog 9 #[] w fun e w' => e = .returned (.bool true) ∧ Below w.heap.size w w' := by
  have HP := Lib.hid (fun w => Put_any 0 8 true w)
  rw [ex_set] at HP
  have HE := Lib.hid (fun w => BsEnc.enc_any 1 (C.one 8) w (C.one_lt 8))
  rw [ex_err, ex_kd, ex_str] at HE
  generalize C.one 8 = m at *
  go_enter Try.func9, Try.ntmps9
  go_wp2_with fail
  rw [C.zero30]
  refine (HP.out _).mono ?_
  rintro e w1 ⟨rfl, hb1⟩
  go_wp2_with (refine step_op rfl (run_op_build_lab (z := 1) (n := m) rfl (by simp [Act.eval, Act.put]) (by simp [Act.eval, Act.put])) ?_)
  refine (HE.out _).mono ?_
  rintro e w2 ⟨rfl, hb2⟩
  have hb12 := hb1.trans (hb2.mono hb1.size)
  have HN := Lib.hid (OptAt.new w2 0 ⟨#[]⟩)
  have hz := hb12.size
  clear hb1 hb2
  unfold opv
  go_wp2_with (refine store_opt rfl rfl rfl rfl HN.out ?_; intro w3 hs ho; have hk := hs.kind; have hd := hs.data; have HO := Lib.hid ho; clear hs ho)
  go_ret
  exact ⟨rfl, (hb12.alloc hz _).trans (HO.out.below (by omega))⟩
#print axioms bs_awake
#print axioms told_any
end Go.Proofs.Ytmaddfjgiflkbaa
