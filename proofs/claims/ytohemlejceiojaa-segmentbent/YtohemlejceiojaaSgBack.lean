/- What is encoded is read as it was: the mathematics. -/
import Derived.Test.YtohemlejceiojaaSgParse
import Derived.Test.YtohemlejceiojaaSgLen
namespace Go.Proofs.Ytohemlejceiojaa
open Go.RowKit
set_option linter.unusedVariables false
set_option maxRecDepth 100000

theorem fold_more (n : Nat) (h : n ≠ 0) : M.fold (n + 65535) = M.fold n := by
  unfold M.fold
  rw [if_neg (by omega), if_neg h]
  omega
theorem fold_made (n : Nat) : M.fold (n + (65535 - M.fold n)) = 65535 := by
  unfold M.fold
  by_cases h : n = 0
  · subst h; rfl
  · rw [if_neg h, if_neg (by omega)]
    omega
theorem fold_nought (n : Nat) (h : 65535 - M.fold n = 0) : M.fold (n + 65535) = 65535 := by
  have hle := M.fold_le n
  have hn : n ≠ 0 := fun e => by subst e; simp [M.fold] at h
  rw [fold_more n hn]
  omega
theorem ba_back (d : ByteArray) : ba d.data.toList = d := (ba_of d).symm
theorem acc_be2 (c : Nat) (hc : c ≤ 65535) : M.acc true (be2 c) = c := by
  have := be2_val c hc
  unfold be2
  rw [acc_two]
  simp only [M.half, Bool.not_true, if_true]
  simp
  omega
theorem flag_even (n : Nat) (h : n % 2 = 0) : M.flag true n = true := by unfold M.flag; rw [if_pos h]
theorem ofs_parts (P : ByteArray) (h : List UInt8) (k : Nat) (d : ByteArray) (hP : P.size % 2 = 0) (hk : k % 2 = 0) (hkl : k + 2 ≤ h.length) (h0 : h.drop k = 0 :: 0 :: h.drop (k + 2)) :
    ∃ n, M.ofs [P, ba h, d] = 65535 - M.fold n ∧ ∀ c, c ≤ 65535 → M.ofs [P, ba (S.put h k c d)] = 65535 - M.fold (n + c) := by
  have hp : P.data.toList.length % 2 = 0 := by rw [Array.length_toList]; exact hP
  have hkk : (h.take k).length % 2 = 0 := by rw [List.length_take, Nat.min_eq_left (by omega)]; exact hk
  refine ⟨M.acc true P.data.toList + M.acc true (h.take k) + M.acc true (h.drop (k + 2) ++ d.data.toList), ?_, fun c hc => ?_⟩
  · have e : M.tot [P, ba h, d] 3 = P.data.toList ++ (h.take k ++ ([0, 0] ++ (h.drop (k + 2) ++ d.data.toList))) := by
      have : h = h.take k ++ ([0, 0] ++ h.drop (k + 2)) := by
        have := (List.take_append_drop k h).symm
        rw [h0] at this
        exact this
      show (List.map (fun s : ByteArray => s.data.toList) [P, ba h, d]).flatten = _
      simp only [List.map_cons, List.map_nil, List.flatten_cons, List.flatten_nil, List.append_nil, ba_list]
      rw [show h ++ d.data.toList = (h.take k ++ ([0, 0] ++ h.drop (k + 2))) ++ d.data.toList from by rw [← this]]
      simp only [List.append_assoc]
    unfold M.ofs
    rw [show [P, ba h, d].length = 3 from rfl, e, M.acc_append, flag_even _ hp, M.acc_append, flag_even _ hkk, M.acc_append]
    have : M.acc true [0, 0] = 0 := rfl
    rw [show ([0, 0] : List UInt8).length = 2 from rfl, flag_even 2 rfl, this]
    congr 2
    omega
  · have e : M.tot [P, ba (S.put h k c d)] 2 = P.data.toList ++ (h.take k ++ (be2 c ++ (h.drop (k + 2) ++ d.data.toList))) := by
      show (List.map (fun s : ByteArray => s.data.toList) [P, ba (S.put h k c d)]).flatten = _
      simp only [List.map_cons, List.map_nil, List.flatten_cons, List.flatten_nil, List.append_nil, ba_list]
      unfold S.put
      simp only [List.append_assoc]
    unfold M.ofs
    rw [show [P, ba (S.put h k c d)].length = 2 from rfl, e, M.acc_append, flag_even _ hp, M.acc_append, flag_even _ hkk, M.acc_append, be2_length, flag_even 2 rfl, acc_be2 c hc]
    congr 2
    omega
namespace S
/-- With its check sum put in, it is good. -/
theorem put_good (p : Int) (src dst : Nat) (h : List UInt8) (k : Nat) (d : ByteArray) (hk : k % 2 = 0) (hkl : k + 2 ≤ h.length) (h0 : h.drop k = 0 :: 0 :: h.drop (k + 2)) :
    good (ahead p src dst (put h k (cks p src dst h d) d)) (put h k (cks p src dst h d) d) := by
  have hlen : (put h k (cks p src dst h d) d).length = h.length + d.size := put_length _ _ _ _ hkl
  unfold good ahead
  rw [hlen]
  have hsz : (ba (pseudo src dst p ((h.length + d.size : Nat) : Int))).size = 12 := rfl
  obtain ⟨n, h1, h2⟩ := ofs_parts (ba (pseudo src dst p ((h.length + d.size : Nat) : Int))) h k d (by rw [hsz]) hk hkl h0
  rw [h2 _ (cks_le _ _ _ _ _)]
  unfold cks told
  rw [h1]
  split
  · rename_i hc
    rw [fold_nought n hc.2]
  · rw [fold_made n]
theorem g_byte (n : Nat) : (UInt8.ofNat n).toNat = n % 256 := by simp
theorem word_val (n : Nat) (h : n < 4294967296) : (256 * (UInt8.ofNat (n / 16777216)).toNat + (UInt8.ofNat (n / 65536)).toNat) * 65536 + (256 * (UInt8.ofNat (n / 256)).toNat + (UInt8.ofNat n).toNat) = n := by
  simp only [g_byte]; omega
theorem drop_put (h : List UInt8) (k c : Nat) (d : ByteArray) (hk : k + 2 ≤ h.length) : (put h k c d).drop h.length = d.data.toList := by
  unfold put
  rw [← List.append_assoc]
  refine List.drop_left' ?_
  simp only [List.length_append, List.length_take, List.length_drop, be2_length]
  omega
theorem back6 (src dst sp dp sq ak fl wi : Nat) (d : ByteArray) (h1 : sp ≤ 65535) (h2 : dp ≤ 65535) (h3 : sq < 4294967296) (h4 : ak < 4294967296) (h5 : fl ≤ 63) (h6 : wi ≤ 65535) :
    parsed 6 src dst (enc6 src dst sp dp sq ak fl wi d) = .tuple #[sg sp dp sq ak fl wi d, .int .i64 0] := by
  have hlen : (enc6 src dst sp dp sq ak fl wi d).length = 20 + d.size := put_length _ 16 _ d (by rw [head6_length]; omega)
  have hgood := put_good 6 src dst (head6 sp dp sq ak fl wi) 16 d rfl (by rw [head6_length]; omega) rfl
  have hdrop : (enc6 src dst sp dp sq ak fl wi d).drop 20 = d.data.toList := drop_put (head6 sp dp sq ak fl wi) 16 _ d (by rw [head6_length]; omega)
  have g12 : H.g (enc6 src dst sp dp sq ak fl wi d) 12 / 16 * 4 = 20 := by
    have : H.g (enc6 src dst sp dp sq ak fl wi d) 12 = (UInt8.ofNat ((20480 + fl) / 256)).toNat := rfl
    rw [this, g_byte]
    omega
  have e1 : H.sh (enc6 src dst sp dp sq ak fl wi d) 0 = sp := be2_val sp h1
  have e2 : H.sh (enc6 src dst sp dp sq ak fl wi d) 2 = dp := be2_val dp h2
  have e3 : H.wd (enc6 src dst sp dp sq ak fl wi d) 4 = sq := word_val sq h3
  have e4 : H.wd (enc6 src dst sp dp sq ak fl wi d) 8 = ak := word_val ak h4
  have e5 : H.g (enc6 src dst sp dp sq ak fl wi d) 13 % 64 = fl := by
    have : H.g (enc6 src dst sp dp sq ak fl wi d) 13 = (UInt8.ofNat (20480 + fl)).toNat := rfl
    rw [this, g_byte]
    omega
  have e6 : H.sh (enc6 src dst sp dp sq ak fl wi d) 14 = wi := be2_val wi h6
  have herr : perr 6 src dst (enc6 src dst sp dp sq ak fl wi d) = 0 := by
    unfold perr err err6
    rw [if_pos rfl, if_neg (by rw [hlen]; omega), g12, if_neg (by omega), if_neg (by rw [hlen]; omega), if_neg]
    intro hn
    exact hn hgood
  unfold parsed seg
  rw [herr, if_pos rfl, if_pos rfl, e1, e2, e3, e4, e5, e6, g12, hdrop, ba_back]
  rfl
theorem back17 (src dst sp dp : Nat) (d : ByteArray) (h1 : sp ≤ 65535) (h2 : dp ≤ 65535) (h3 : d.size ≤ 65507) :
    parsed 17 src dst (enc17 src dst sp dp d) = .tuple #[sg sp dp 0 0 0 0 d, .int .i64 0] := by
  have hlen : (enc17 src dst sp dp d).length = 8 + d.size := put_length _ 6 _ d (by rw [head17_length]; omega)
  have hgood := put_good 17 src dst (head17 sp dp d.size) 6 d rfl (by rw [head17_length]; omega) rfl
  have hdrop : (enc17 src dst sp dp d).drop 8 = d.data.toList := drop_put (head17 sp dp d.size) 6 _ d (by rw [head17_length]; omega)
  have e1 : H.sh (enc17 src dst sp dp d) 0 = sp := be2_val sp h1
  have e2 : H.sh (enc17 src dst sp dp d) 2 = dp := be2_val dp h2
  have e4 : H.sh (enc17 src dst sp dp d) 4 = 8 + d.size := be2_val (8 + d.size) (by omega)
  have herr : perr 17 src dst (enc17 src dst sp dp d) = 0 := by
    unfold perr err err17
    rw [if_neg (by decide), if_pos rfl, if_neg (by rw [hlen]; omega), e4, if_neg (by omega), if_neg (by rw [hlen]; omega), if_neg (by rw [hlen]; omega), if_neg]
    intro hn
    exact hn.2 hgood
  unfold parsed seg
  rw [herr, if_pos rfl, if_neg (by decide), e1, e2, hdrop, ba_back]
  rfl
/-- What is encoded is read as it was. -/
theorem back (p sp dp sq ak fl wi : Int) (src dst : Nat) (d : ByteArray) (hsq : 0 ≤ sq ∧ sq < 4294967296) (hak : 0 ≤ ak ∧ ak < 4294967296) (hr : right p sp dp sq ak fl wi d.size = true) :
    parsed p src dst (enc p src dst sp dp sq ak fl wi d) = .tuple #[sg sp dp sq ak fl wi d, .int .i64 0] := by
  have hr' : Right p sp dp sq ak fl wi d.size := of_decide_eq_true hr
  have hp : p = 6 ∨ p = 17 := by unfold Right at hr'; omega
  unfold Right fits at hr'
  obtain ⟨a1, rfl⟩ : ∃ n : Nat, sp = n := ⟨sp.toNat, by omega⟩
  obtain ⟨a2, rfl⟩ : ∃ n : Nat, dp = n := ⟨dp.toNat, by omega⟩
  obtain ⟨a3, rfl⟩ : ∃ n : Nat, sq = n := ⟨sq.toNat, by omega⟩
  obtain ⟨a4, rfl⟩ : ∃ n : Nat, ak = n := ⟨ak.toNat, by omega⟩
  rcases hp with rfl | rfl
  · obtain ⟨a5, rfl⟩ : ∃ n : Nat, fl = n := ⟨fl.toNat, by omega⟩
    obtain ⟨a6, rfl⟩ : ∃ n : Nat, wi = n := ⟨wi.toNat, by omega⟩
    unfold enc
    rw [if_pos rfl]
    simp only [Int.toNat_natCast]
    exact back6 src dst a1 a2 a3 a4 a5 a6 d (by omega) (by omega) (by omega) (by omega) (by omega) (by omega)
  · obtain ⟨e1, e2, e3, e4⟩ : (a3 : Int) = 0 ∧ (a4 : Int) = 0 ∧ fl = 0 ∧ wi = 0 := by omega
    unfold enc
    rw [if_neg (by decide), e1, e2, e3, e4]
    simp only [Int.toNat_natCast]
    exact back17 src dst a1 a2 d (by omega) (by omega) (by omega)
end S
#print axioms S.back
end Go.Proofs.Ytohemlejceiojaa
