/- Plain facts of texts of addresses: what is told is read again; what is read is told so. -/
import Derived.Test.YtlnmpibhjpedcaaDoorAddrText
namespace Go.Proofs.YtlnmpibhjpedcaaDoor
open Go.RowKit

theorem indexByte_hit (c : UInt8) : ∀ (x r : List UInt8), c ∉ x → Lib.indexByte (x ++ c :: r) c = x.length
  | [], r, _ => by simp [Lib.indexByte]
  | y :: x, r, h => by
    have hy : ¬ y = c := fun e => h (by rw [e]; exact List.mem_cons_self)
    have ih := indexByte_hit c x r (fun hm => h (List.mem_cons_of_mem _ hm))
    rw [List.cons_append, Lib.indexByte]
    simp [hy, ih]
theorem indexByte_miss (c : UInt8) : ∀ (x : List UInt8), c ∉ x → Lib.indexByte x c = -1
  | [], _ => by simp [Lib.indexByte]
  | y :: x, h => by
    have hy : ¬ y = c := fun e => h (by rw [e]; exact List.mem_cons_self)
    have ih := indexByte_miss c x (fun hm => h (List.mem_cons_of_mem _ hm))
    rw [Lib.indexByte]
    simp [hy, ih]

theorem splitK_hit (c : UInt8) (k : Nat) (x r : List UInt8) (h : c ∉ x) : Lib.splitK [c] 0 (k + 1) (x ++ c :: r) = x :: Lib.splitK [c] 0 k r := by
  have e : Lib.index (x ++ c :: r) [c] = x.length := by rw [Lib.index_one]; exact indexByte_hit c x r h
  rw [Lib.splitK, e]
  rw [if_neg (by simp)]
  simp
theorem splitK_miss (c : UInt8) (k : Nat) (x : List UInt8) (h : c ∉ x) : Lib.splitK [c] 0 k x = [x] := by
  cases k with
  | zero => rfl
  | succ k =>
    have e : Lib.index x [c] = -1 := by rw [Lib.index_one]; exact indexByte_miss c x h
    rw [Lib.splitK, e]
    simp

theorem told_dot : ∀ n, n ≤ 255 → (46 : UInt8) ∉ (A.told n).data.toList := by
  have h : ((List.range 256).all fun n => decide ((46 : UInt8) ∉ (A.told n).data.toList)) = true := by kernel_rfl
  intro n hn
  have := List.all_eq_true.1 h n (List.mem_range.2 (by omega))
  simpa using this

theorem told_num : ∀ n, n ≤ 255 → A.num 255 (A.told n) = some n := by
  have h : ((List.range 256).all fun n => decide (A.num 255 (A.told n) = some n)) = true := by kernel_rfl
  intro n hn
  have := List.all_eq_true.1 h n (List.mem_range.2 (by omega))
  simpa using this

theorem num_told {most n : Nat} {s : ByteArray} (h : A.num most s = some n) : A.told n = s := by
  unfold A.num at h
  split at h
  · next v hv =>
    split at h
    · next hc =>
      cases h
      unfold A.told
      rw [show ((v.toNat : Nat) : Int) = v by omega]
      exact hc.2.2
    · cases h
  · cases h

theorem byte_list_inj {s t : ByteArray} (h : s.data.toList = t.data.toList) : s = t := by
  cases s; cases t
  simp only [ByteArray.mk.injEq]
  exact Array.toList_inj.1 h

theorem map_data_inj : ∀ (l m : List ByteArray), l.map (·.data.toList) = m.map (·.data.toList) → l = m
  | [], [], _ => rfl
  | [], _ :: _, h => by simp at h
  | _ :: _, [], h => by simp at h
  | x :: l, y :: m, h => by
    simp only [List.map_cons, List.cons.injEq] at h
    rw [byte_list_inj h.1, map_data_inj l m h.2]

theorem text_list (n0 n1 n2 n3 : Nat) : Lib.join [(A.told n0).data.toList, (A.told n1).data.toList, (A.told n2).data.toList, (A.told n3).data.toList] [46] = (A.told n0).data.toList ++ 46 :: ((A.told n1).data.toList ++ 46 :: ((A.told n2).data.toList ++ 46 :: (A.told n3).data.toList)) := by
  simp [Lib.join_cons, Lib.joinTail]

theorem parse_text (a : Nat) (ha : a < 4294967296) : A.parse (A.text a) = some a := by
  have l0 : a / 16777216 ≤ 255 := by omega
  have l1 : a / 65536 % 256 ≤ 255 := by omega
  have l2 : a / 256 % 256 ≤ 255 := by omega
  have l3 : a % 256 ≤ 255 := by omega
  have hs : ((a / 16777216 * 256 + a / 65536 % 256) * 256 + a / 256 % 256) * 256 + a % 256 = a := by omega
  unfold A.text
  rw [text_list]
  generalize a / 16777216 = n0 at *
  generalize a / 65536 % 256 = n1 at *
  generalize a / 256 % 256 = n2 at *
  generalize a % 256 = n3 at *
  generalize hT : (⟨((A.told n0).data.toList ++ 46 :: ((A.told n1).data.toList ++ 46 :: ((A.told n2).data.toList ++ 46 :: (A.told n3).data.toList))).toArray⟩ : ByteArray) = T
  have hz : 3 ≤ T.size := by
    rw [← hT]
    show 3 ≤ (List.toArray _).size
    simp
    omega
  have hp : (A.parts T).map (·.data.toList) = [A.told n0, A.told n1, A.told n2, A.told n3].map (·.data.toList) := by
    unfold A.parts
    rw [Lib.splitB_data]
    rw [show (ByteArray.mk #[46]).data.toList = [46] from rfl]
    have e : T.data.toList = (A.told n0).data.toList ++ 46 :: ((A.told n1).data.toList ++ 46 :: ((A.told n2).data.toList ++ 46 :: (A.told n3).data.toList)) := by rw [← hT]
    obtain ⟨k, hk⟩ : ∃ k, min 5 (T.size + 1) - 1 = k + 3 := ⟨min 5 (T.size + 1) - 4, by omega⟩
    rw [e, hk, splitK_hit 46 _ _ _ (told_dot n0 l0), splitK_hit 46 _ _ _ (told_dot n1 l1), splitK_hit 46 _ _ _ (told_dot n2 l2), splitK_miss 46 _ _ (told_dot n3 l3)]
    rfl
  have hq : A.parts T = [A.told n0, A.told n1, A.told n2, A.told n3] := map_data_inj _ _ hp
  unfold A.parse
  rw [hq, if_pos (by simp)]
  simp only [A.fold, told_num n0 l0, told_num n1 l1, told_num n2 l2, told_num n3 l3]
  rw [← hs]
  simp

theorem take_index (c : UInt8) : ∀ (s : List UInt8) (i : Nat), Lib.indexByte s c = i → s.take i ++ c :: s.drop (i + 1) = s
  | [], i, h => by simp [Lib.indexByte] at h
  | y :: s, i, h => by
    rw [Lib.indexByte] at h
    by_cases hy : y = c
    · subst hy
      simp at h
      obtain rfl : i = 0 := by omega
      simp
    · simp only [beq_iff_eq, hy, if_false] at h
      split at h
      · omega
      · cases i with
        | zero => have := Lib.indexByte_ge s c; omega
        | succ i =>
          have := take_index c s i (by omega)
          simp [this]

theorem splitK_ne (sep : List UInt8) (k : Nat) (s : List UInt8) : Lib.splitK sep 0 k s ≠ [] := by
  cases k with
  | zero => simp [Lib.splitK]
  | succ k => rw [Lib.splitK]; split <;> simp

theorem join_more (x : List UInt8) (r : List (List UInt8)) (sep : List UInt8) (h : r ≠ []) : Lib.join (x :: r) sep = x ++ sep ++ Lib.join r sep := by
  cases r with
  | nil => exact absurd rfl h
  | cons y r => rw [Lib.join_cons, Lib.join_cons]; simp [Lib.joinTail]

theorem join_split (c : UInt8) : ∀ (k : Nat) (s : List UInt8), Lib.join (Lib.splitK [c] 0 k s) [c] = s
  | 0, s => by rw [Lib.splitK]; exact Lib.join_one _ _
  | k + 1, s => by
    rw [Lib.splitK]
    split
    · exact Lib.join_one _ _
    · next hne =>
      rw [join_more _ _ _ (splitK_ne _ _ _), join_split c k]
      have hge := Lib.indexByte_ge s c
      have e : Lib.index s [c] = Lib.indexByte s c := Lib.index_one s c
      rw [e] at hne ⊢
      simp at hne
      have := take_index c s (Lib.indexByte s c).toNat (by omega)
      simpa using this

theorem fold_text {l : List ByteArray} {c : Nat} (hl : l.length = 4) (h : A.fold l 0 = some c) : A.text c = ⟨(Lib.join (l.map (·.data.toList)) [46]).toArray⟩ := by
  match l, hl with
  | [x0, x1, x2, x3], _ =>
    simp only [A.fold] at h
    cases h0 : A.num 255 x0 with
    | none => rw [h0] at h; cases h
    | some n0 =>
      rw [h0] at h
      cases h1 : A.num 255 x1 with
      | none => simp only [h1] at h; cases h
      | some n1 =>
        simp only [h1] at h
        cases h2 : A.num 255 x2 with
        | none => simp only [h2] at h; cases h
        | some n2 =>
          simp only [h2] at h
          cases h3 : A.num 255 x3 with
          | none => simp only [h3] at h; cases h
          | some n3 =>
            simp only [h3, Option.some.injEq] at h
            have l0 := A.num_le h0
            have l1 := A.num_le h1
            have l2 := A.num_le h2
            have l3 := A.num_le h3
            have e0 : c / 16777216 = n0 := by omega
            have e1 : c / 65536 % 256 = n1 := by omega
            have e2 : c / 256 % 256 = n2 := by omega
            have e3 : c % 256 = n3 := by omega
            unfold A.text
            rw [e0, e1, e2, e3, num_told h0, num_told h1, num_told h2, num_told h3]
            rfl

theorem text_parse {s : ByteArray} {c : Nat} (h : A.parse s = some c) : A.text c = s := by
  unfold A.parse at h
  split at h
  · next h4 =>
    rw [fold_text h4 h]
    apply byte_list_inj
    unfold A.parts
    rw [Lib.splitB_data]
    exact join_split 46 _ _
  · cases h
#print axioms parse_text
#print axioms text_parse
end Go.Proofs.YtlnmpibhjpedcaaDoor
