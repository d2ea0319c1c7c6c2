/- Plain facts of prefixes' texts. -/
import Derived.Test.YtlnmpibhjpedcaaDoorAddrPText
namespace Go.Proofs.YtlnmpibhjpedcaaDoor
open Go.RowKit

theorem told_slash : ∀ n, n ≤ 255 → (47 : UInt8) ∉ (A.told n).data.toList := by
  have h : ((List.range 256).all fun n => decide ((47 : UInt8) ∉ (A.told n).data.toList)) = true := by kernel_rfl
  intro n hn
  have := List.all_eq_true.1 h n (List.mem_range.2 (by omega))
  simpa using this

theorem told_num32 : ∀ n, n ≤ 32 → A.num 32 (A.told n) = some n := by
  have h : ((List.range 33).all fun n => decide (A.num 32 (A.told n) = some n)) = true := by kernel_rfl
  intro n hn
  have := List.all_eq_true.1 h n (List.mem_range.2 (by omega))
  simpa using this

theorem text_slash (a : Nat) (ha : a < 4294967296) : (47 : UInt8) ∉ (A.text a).data.toList := by
  have h0 := told_slash (a / 16777216) (by omega)
  have h1 := told_slash (a / 65536 % 256) (by omega)
  have h2 := told_slash (a / 256 % 256) (by omega)
  have h3 := told_slash (a % 256) (by omega)
  unfold A.text
  rw [text_list]
  simp only [List.mem_append, List.mem_cons, not_or]
  exact ⟨h0, by decide, h1, by decide, h2, by decide, h3⟩

theorem cut_hit (x r : List UInt8) (h : (47 : UInt8) ∉ x) : Lib.cut (x ++ 47 :: r) [47] = (x, r, true) := by
  have e : Lib.index (x ++ 47 :: r) [47] = x.length := by rw [Lib.index_one]; exact indexByte_hit 47 x r h
  unfold Lib.cut
  rw [e]
  simp

theorem cut_back (s : List UInt8) : (Lib.cut s [47]).2.2 = true → (Lib.cut s [47]).1 ++ 47 :: (Lib.cut s [47]).2.1 = s := by
  have e : Lib.index s [47] = Lib.indexByte s 47 := Lib.index_one s 47
  have hge := Lib.indexByte_ge s 47
  unfold Lib.cut
  rw [e]
  split
  · next hne =>
    intro _
    have := take_index 47 s (Lib.indexByte s 47).toNat (by omega)
    simpa using this
  · intro h; simp at h

theorem cut_none (s : List UInt8) : (Lib.cut s [47]).2.2 = false → (Lib.cut s [47]).2.1 = [] := by
  unfold Lib.cut
  split
  · intro h; simp at h
  · intro _; rfl

theorem num_empty : A.num 32 ⟨#[]⟩ = none := by kernel_rfl
theorem prefix_empty : A.prefixIs ⟨#[]⟩ = #[.agg #[.int .u32 0, .int .i64 0], .bool false] := by
  have h : A.prefix ⟨#[]⟩ = none := by kernel_rfl
  unfold A.prefixIs; rw [h]

theorem right_bits {p : Nat} {b : Int} (h : A.right p b = true) : 0 ≤ b ∧ b ≤ 32 := by
  unfold A.right at h
  simp at h
  omega

theorem prefix_ptext (p b : Nat) (hp : p < 4294967296) (hb : b ≤ 32) (hr : A.right p b = true) : A.prefix (A.ptext p b) = some (p, b) := by
  have e : (A.ptext p b).data.toList = (A.text p).data.toList ++ 47 :: (A.told b).data.toList := by
    unfold A.ptext; simp [ByteArray.data_append]
  unfold A.prefix
  rw [e, cut_hit _ _ (text_slash p hp)]
  simp only [Array.toArray_toList]
  rw [parse_text p hp, told_num32 b hb]
  simp only []
  rw [if_pos hr]

theorem ptext_prefix {s : ByteArray} {c d : Nat} (h : A.prefix s = some (c, d)) : A.ptext c d = s ∧ A.right c d = true ∧ c < 4294967296 ∧ d ≤ 32 := by
  unfold A.prefix at h
  simp only [] at h
  split at h
  · next a b h1 h2 =>
    split at h
    · next hr =>
      cases h
      have hl := parse_lt ⟨(Lib.cut s.data.toList [47]).1.toArray⟩
      rw [h1] at hl
      refine ⟨?_, hr, hl, A.num_le h2⟩
      have hf : (Lib.cut s.data.toList [47]).2.2 = true := by
        cases hf : (Lib.cut s.data.toList [47]).2.2
        · rw [cut_none _ hf] at h2
          have := num_empty
          rw [show (⟨([] : List UInt8).toArray⟩ : ByteArray) = ⟨#[]⟩ from rfl, this] at h2
          cases h2
        · rfl
      apply byte_list_inj
      unfold A.ptext
      rw [text_parse h1, num_told h2]
      rw [ByteArray.data_append, ByteArray.data_append]
      simpa using cut_back s.data.toList hf
    · cases h
  · cases h
#print axioms prefix_ptext
#print axioms ptext_prefix
end Go.Proofs.YtlnmpibhjpedcaaDoor
