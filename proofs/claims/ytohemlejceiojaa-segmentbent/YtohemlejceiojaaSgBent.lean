/- A segment's bytes of which one bit is turned: they are not read. No program is named here. -/
import Derived.Test.YtohemlejceiojaaSgBack
namespace Go.Proofs.Ytohemlejceiojaa
set_option linter.unusedVariables false

theorem xor_bit : ∀ n : Fin 256, ∀ b : Fin 8, (n.val ^^^ 2 ^ b.val = n.val + 2 ^ b.val ∨ (n.val ^^^ 2 ^ b.val) + 2 ^ b.val = n.val) ∧ n.val ^^^ 2 ^ b.val < 256 := by decide +kernel

theorem xor_nat (n b : Nat) (hn : n < 256) (hb : b < 8) : (n ^^^ 2 ^ b = n + 2 ^ b ∨ (n ^^^ 2 ^ b) + 2 ^ b = n) ∧ n ^^^ 2 ^ b < 256 := xor_bit ⟨n, hn⟩ ⟨b, hb⟩

theorem pow_small (b : Nat) (hb : b < 8) : 1 ≤ 2 ^ b ∧ 2 ^ b ≤ 128 :=
  ⟨Nat.one_le_two_pow, Nat.le_trans (Nat.pow_le_pow_right (by decide) (show b ≤ 7 by omega)) (by decide)⟩

theorem fold_good (n : Nat) (h : M.fold n = 65535) : n % 65535 = 0 := by
  unfold M.fold at h
  split at h <;> omega

theorem ofs_good (T : List UInt8) (h : M.ofs [ba T] = 0) : M.acc true T % 65535 = 0 := by
  have e : M.ofs [ba T] = 65535 - M.fold (M.acc true T) := by simp [M.ofs, M.tot, ba_list]
  rw [e] at h
  have h1 := M.fold_le (M.acc true T)
  exact fold_good _ (by omega)

theorem half_cases (f : Bool) (x : UInt8) : M.half f x = x.toNat * 256 ∨ M.half f x = x.toNat := by
  unfold M.half
  cases f
  · exact .inr rfl
  · exact .inl rfl

theorem half_two (f : Bool) (x y : UInt8) : (M.half f x = x.toNat * 256 ∧ M.half f y = y.toNat * 256) ∨ (M.half f x = x.toNat ∧ M.half f y = y.toNat) := by
  unfold M.half
  cases f
  · exact .inr ⟨rfl, rfl⟩
  · exact .inl ⟨rfl, rfl⟩

/-- Two rows that differ in one bit aren't both good. -/
theorem bit_sum (T : List UInt8) (j b : Nat) (hj : j < T.length) (hb : b < 8) (y : UInt8) (hy : y.toNat = T[j].toNat ^^^ 2 ^ b) (h1 : M.ofs [ba T] = 0) (h2 : M.ofs [ba (T.set j y)] = 0) : False := by
  have a1 := ofs_good T h1
  have a2 := ofs_good _ h2
  have e1 : T = T.take j ++ T[j] :: T.drop (j + 1) := by
    rw [List.getElem_cons_drop, List.take_append_drop]
  have e2 : T.set j y = T.take j ++ y :: T.drop (j + 1) := by
    rw [List.set_eq_take_append_cons_drop, if_pos hj]
  rw [e2, M.acc_append] at a2
  rw [e1, M.acc_append] at a1
  generalize M.flag true (T.take j).length = f at *
  simp only [M.acc] at a1 a2
  obtain ⟨hx, _⟩ := xor_nat T[j].toNat b (T[j].toNat_lt) hb
  obtain ⟨p1, p2⟩ := pow_small b hb
  rw [← hy] at hx
  generalize M.acc true (T.take j) = P at *
  generalize M.acc (!f) (T.drop (j + 1)) = R at *
  have hh := half_two f T[j] y
  generalize M.half f T[j] = u at *
  generalize M.half f y = v at *
  generalize 2 ^ b = t at *
  rcases hh with ⟨g1, g2⟩ | ⟨g1, g2⟩ <;> rcases hx with g3 | g3 <;> omega

namespace H
/-- The bytes with one bit turned. -/
def turn (s : List UInt8) (j b : Nat) : List UInt8 := s.set j (UInt8.ofNat ((s.getD j 0).toNat ^^^ 2 ^ b))

theorem turn_length (s : List UInt8) (j b : Nat) : (turn s j b).length = s.length := by simp [turn]
end H
theorem ofs_pair (P s : List UInt8) : M.ofs [ba P, ba s] = M.ofs [ba (P ++ s)] := by
  unfold M.ofs
  congr 2
  show M.acc true ((List.map (fun s : ByteArray => s.data.toList) [ba P, ba s]).flatten) = M.acc true ((List.map (fun s : ByteArray => s.data.toList) [ba (P ++ s)]).flatten)
  simp [ba_list]
namespace S
/-- Good bytes of which one bit is turned aren't good. -/
theorem good_bent (p : Int) (src dst : Nat) (s : List UInt8) (j b : Nat) (hj : j < s.length) (hb : b < 8) (h1 : good (ahead p src dst s) s) (h2 : good (ahead p src dst (H.turn s j b)) (H.turn s j b)) : False := by
  unfold good ahead at h1 h2
  rw [H.turn_length] at h2
  generalize pseudo src dst p (s.length : Int) = P at *
  rw [ofs_pair] at h1 h2
  have hk : P.length + j < (P ++ s).length := by simp; omega
  have e : P ++ H.turn s j b = (P ++ s).set (P.length + j) (UInt8.ofNat ((s.getD j 0).toNat ^^^ 2 ^ b)) := by
    unfold H.turn
    rw [List.set_append_right _ _ (by omega)]
    congr 2
    omega
  rw [e] at h2
  have g : (P ++ s)[P.length + j] = s[j] := by
    rw [List.getElem_append_right (by omega)]
    congr 1
    omega
  refine bit_sum (P ++ s) (P.length + j) b hk hb _ ?_ h1 h2
  rw [g, List.getD_eq_getElem?_getD, List.getElem?_eq_getElem hj, Option.getD_some]
  have := (xor_nat s[j].toNat b (s[j].toNat_lt) hb).2
  rw [g_byte]
  exact Nat.mod_eq_of_lt this
theorem enc_good (p : Int) (src dst : Nat) (sp dp sq ak fl wi : Int) (d : ByteArray) : good (ahead p src dst (enc p src dst sp dp sq ak fl wi d)) (enc p src dst sp dp sq ak fl wi d) ∨ (p ≠ 6 ∧ p ≠ 17) := by
  unfold enc
  by_cases h : p = 6
  · subst h
    rw [if_pos rfl]
    exact .inl (put_good 6 src dst (head6 _ _ _ _ _ _) 16 d rfl (by rw [head6_length]; omega) rfl)
  · rw [if_neg h]
    by_cases h' : p = 17
    · subst h'
      exact .inl (put_good 17 src dst (head17 _ _ d.size) 6 d rfl (by rw [head17_length]; omega) rfl)
    · exact .inr ⟨h, h'⟩
/-- They aren't read, but UDP's whose check sum is 0 then. -/
theorem perr_bent (p : Int) (src dst : Nat) (s : List UInt8) (j b : Nat) (hj : j < s.length) (hb : b < 8) (h1 : good (ahead p src dst s) s) (h2 : perr p src dst (H.turn s j b) = 0) : p = 17 ∧ H.sh (H.turn s j b) 6 = 0 := by
  have hn : ¬ good (ahead p src dst (H.turn s j b)) (H.turn s j b) := fun h => good_bent p src dst s j b hj hb h1 h
  unfold perr err at h2
  split at h2
  · unfold err6 at h2
    rw [if_pos hn] at h2
    repeat' split at h2
    all_goals omega
  · split at h2
    · rename_i h17
      refine ⟨h17, ?_⟩
      unfold err17 at h2
      apply Classical.byContradiction
      intro hs
      rw [if_pos (show H.sh (H.turn s j b) 6 ≠ 0 ∧ ¬ good (ahead p src dst (H.turn s j b)) (H.turn s j b) from ⟨hs, hn⟩)] at h2
      repeat' split at h2
      all_goals omega
    · omega
end S
#print axioms S.perr_bent
end Go.Proofs.Ytohemlejceiojaa
