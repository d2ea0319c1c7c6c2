/- Plain arithmetic of check sums: sums of halves of shorts, and the carries brought round. No program is named here. -/
import Derived.WalkKit
namespace Go.Proofs.Ytohemlejceiojaa.M

/-- The carries brought round. -/
def fold (n : Nat) : Nat := if n = 0 then 0 else (n - 1) % 65535 + 1

theorem fold_step (n : Nat) (h : 65535 < n) : fold (n / 65536 + n % 65536) = fold n := by
  unfold fold
  rw [if_neg (by omega), if_neg (by omega)]
  omega

theorem fold_small (n : Nat) (h : n ≤ 65535) : fold n = n := by
  unfold fold
  split <;> omega

theorem fold_le (n : Nat) : fold n ≤ 65535 := by
  unfold fold
  split <;> omega

/-- What a byte adds, as the high half of a short or as its low half. -/
def half (h : Bool) (c : UInt8) : Nat := if h then c.toNat * 256 else c.toNat

/-- Which half is next behind so many bytes. -/
def flag (h : Bool) (n : Nat) : Bool := if n % 2 = 0 then h else !h

def acc : Bool → List UInt8 → Nat
  | _, [] => 0
  | h, c :: r => half h c + acc (!h) r

theorem flag_succ (h : Bool) (n : Nat) : flag h (n + 1) = !flag h n := by
  unfold flag
  rcases Nat.mod_two_eq_zero_or_one n with e | e
  · rw [if_neg (by omega), if_pos e]
  · rw [if_pos (by omega), if_neg (by omega)]; simp

theorem flag_not (h : Bool) (n : Nat) : flag (!h) n = flag h (n + 1) := by
  rw [flag_succ]; unfold flag; split <;> rfl

theorem acc_append (h : Bool) (l m : List UInt8) : acc h (l ++ m) = acc h l + acc (flag h l.length) m := by
  induction l generalizing h with
  | nil => simp [acc, flag]
  | cons c r ih => simp only [List.cons_append, acc, ih, List.length_cons, flag_not]; omega

theorem half_le (h : Bool) (c : UInt8) : half h c ≤ 65280 := by
  have := c.toNat_lt
  unfold half; split <;> omega

theorem acc_le (h : Bool) (l : List UInt8) : acc h l ≤ 65280 * l.length := by
  induction l generalizing h with
  | nil => simp [acc]
  | cons c r ih => have := ih (!h); have := half_le h c; simp only [acc, List.length_cons]; omega

theorem acc_snoc (h : Bool) (l : List UInt8) (c : UInt8) : acc h (l ++ [c]) = acc h l + half (flag h l.length) c := by
  rw [acc_append]; simp [acc]

theorem take_snoc (s : ByteArray) (k : Nat) (h : k < s.size) : s.data.toList.take (k + 1) = s.data.toList.take k ++ [s[k]] := by
  rw [List.take_succ_eq_append_getElem (by simpa using h)]; rfl

theorem acc_take (h : Bool) (s : ByteArray) (k : Nat) (hk : k < s.size) :
    acc h (s.data.toList.take (k + 1)) = acc h (s.data.toList.take k) + half (flag h k) s[k] := by
  rw [take_snoc s k hk, acc_snoc, List.length_take, Nat.min_eq_left (by simpa using Nat.le_of_lt hk)]

/-- The bytes of the first texts, one behind the other. -/
def tot (l : List ByteArray) (k : Nat) : List UInt8 := ((l.take k).map fun s => s.data.toList).flatten

theorem tot_zero (l : List ByteArray) : tot l 0 = [] := by simp [tot]

theorem tot_succ (l : List ByteArray) (k : Nat) (h : k < l.length) : tot l (k + 1) = tot l k ++ (l.getD k ByteArray.empty).data.toList := by
  unfold tot
  rw [List.take_succ_eq_append_getElem h, List.map_append, List.flatten_append, List.getD_eq_getElem?_getD, List.getElem?_eq_getElem h]
  simp only [List.map_cons, List.map_nil, List.flatten_cons, List.flatten_nil, List.append_nil, Option.getD_some]

theorem tot_len_le (l : List ByteArray) (k : Nat) : (tot l k).length ≤ (tot l l.length).length := by
  unfold tot
  rw [List.take_of_length_le (Nat.le_refl l.length)]
  have e : (List.map (fun s : ByteArray => s.data.toList) l).flatten = (List.map (fun s : ByteArray => s.data.toList) (List.take k l)).flatten ++ (List.map (fun s : ByteArray => s.data.toList) (List.drop k l)).flatten := by
    rw [← List.flatten_append, ← List.map_append, List.take_append_drop]
  rw [e, List.length_append]
  omega

theorem tot_len_succ_le (l : List ByteArray) (k : Nat) (h : k < l.length) : (tot l k).length + (l.getD k ByteArray.empty).size ≤ (tot l l.length).length := by
  have h1 := tot_len_le l (k + 1)
  rw [tot_succ l k h, List.length_append] at h1
  rw [Array.length_toList] at h1
  exact h1

theorem flag_flag (h : Bool) (a b : Nat) : flag (flag h a) b = flag h (a + b) := by
  unfold flag
  rcases Nat.mod_two_eq_zero_or_one a with e | e <;> rcases Nat.mod_two_eq_zero_or_one b with f | f
  · have : (a + b) % 2 = 0 := by omega
    simp [e, f, this]
  · have : (a + b) % 2 = 1 := by omega
    simp [e, f, this]
  · have : (a + b) % 2 = 1 := by omega
    simp [e, f, this]
  · have : (a + b) % 2 = 0 := by omega
    simp [e, f, this]

/-- The check sum of texts, one behind the other. -/
def ofs (l : List ByteArray) : Nat := 65535 - fold (acc true (tot l l.length))

end Go.Proofs.Ytohemlejceiojaa.M
