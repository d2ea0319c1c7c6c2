/- Options as plain data: which are right, how many bytes they have, their bytes, and bytes' options. No program is named here. -/
import Derived.WalkKit
namespace Go.Proofs.YtncnildpbccpaaaDoor
set_option maxRecDepth 100000

/-- An option: its kind, and its bytes behind kind and length. -/
structure Opt where
  kind : Int
  data : ByteArray

namespace O

def right (o : Opt) : Bool := if o.kind = 1 then o.data.size = 0 else 2 ≤ o.kind ∧ o.kind ≤ 255 ∧ o.data.size ≤ 38

def sizeOne (o : Opt) : Nat := if o.kind = 1 then 1 else 2 + o.data.size

def raw : List Opt → Nat
  | [] => 0
  | o :: r => sizeOne o + raw r

def pad (n : Nat) : Nat := (4 - n % 4) % 4

def size (l : List Opt) : Nat := raw l + pad (raw l)

def encOne (o : Opt) : List UInt8 := if o.kind = 1 then [1] else UInt8.ofNat o.kind.toNat :: UInt8.ofNat (2 + o.data.size) :: o.data.data.toList

def encRaw : List Opt → List UInt8
  | [] => []
  | o :: r => encOne o ++ encRaw r

def enc (l : List Opt) : List UInt8 := encRaw l ++ List.replicate (pad (raw l)) 0

/-- Is there more than is asked of? -/
def great (l : List Opt) : Bool := l.any (fun o => 100 < o.data.size) || 60 < l.length

/-- Bytes' options, or the error's number. -/
def par : List UInt8 → Except Nat (List Opt)
  | [] => .ok []
  | k :: r =>
    if k = 0 then (if r.all (· == 0) then .ok [] else .error 3)
    else if k = 1 then (match par r with | .ok l => .ok (⟨1, ⟨#[]⟩⟩ :: l) | .error e => .error e)
    else match r with
      | [] => .error 2
      | n :: t =>
        if 2 + t.length < n.toNat then .error 2
        else if n.toNat < 2 then .error 3
        else match par (t.drop (n.toNat - 2)) with
          | .ok l => .ok (⟨k.toNat, ⟨(t.take (n.toNat - 2)).toArray⟩⟩ :: l)
          | .error e => .error e
termination_by l => l.length
decreasing_by
  all_goals simp
  all_goals omega

/-- What is read of bytes: at most 40, a multiple of 4. -/
def parse (s : List UInt8) : Except Nat (List Opt) :=
  if 40 < s.length then .error 5 else if s.length % 4 ≠ 0 then .error 3 else par s

theorem encOne_length (o : Opt) : (encOne o).length = sizeOne o := by
  unfold encOne sizeOne
  split
  · rfl
  · show (_ :: _ :: o.data.data.toList).length = 2 + o.data.size
    rw [List.length_cons, List.length_cons, Array.length_toList]
    show o.data.size + 1 + 1 = _
    omega

theorem encRaw_length (l : List Opt) : (encRaw l).length = raw l := by
  induction l with
  | nil => rfl
  | cons o r ih => simp [encRaw, raw, encOne_length, ih]

theorem enc_length (l : List Opt) : (enc l).length = size l := by
  simp [enc, size, encRaw_length]

theorem pad_le (n : Nat) : pad n ≤ 3 := by unfold pad; omega

theorem size_mod (l : List Opt) : size l % 4 = 0 := by unfold size pad; omega

theorem raw_append (l m : List Opt) : raw (l ++ m) = raw l + raw m := by
  induction l with
  | nil => simp [raw]
  | cons o r ih => simp [raw, ih]; omega

theorem encRaw_append (l m : List Opt) : encRaw (l ++ m) = encRaw l ++ encRaw m := by
  induction l with
  | nil => rfl
  | cons o r ih => simp [encRaw, ih]

theorem sizeOne_pos (o : Opt) : 1 ≤ sizeOne o := by unfold sizeOne; split <;> omega

theorem byte_eq (n : Nat) (h : n < 256) : (UInt8.ofNat n).toNat = n := by
  rw [UInt8.toNat_ofNat']; omega

theorem par_nil : par [] = .ok [] := by rw [par.eq_def]
theorem par_zero (r : List UInt8) : par (0 :: r) = if r.all (· == 0) then .ok [] else .error 3 := by rw [par.eq_def]; simp
theorem par_one (r : List UInt8) : par (1 :: r) = match par r with | .ok l => .ok (⟨1, ⟨#[]⟩⟩ :: l) | .error e => .error e := by rw [par.eq_def]; simp
theorem par_end (k : UInt8) (h0 : k ≠ 0) (h1 : k ≠ 1) : par [k] = .error 2 := by rw [par.eq_def]; simp [h0, h1]
theorem par_long (k n : UInt8) (t : List UInt8) (h0 : k ≠ 0) (h1 : k ≠ 1) : par (k :: n :: t) = if 2 + t.length < n.toNat then .error 2 else if n.toNat < 2 then .error 3
    else match par (t.drop (n.toNat - 2)) with | .ok l => .ok (⟨k.toNat, ⟨(t.take (n.toNat - 2)).toArray⟩⟩ :: l) | .error e => .error e := by rw [par.eq_def]; simp only [if_neg h0, if_neg h1]

theorem empty_of_size (d : ByteArray) (h : d.size = 0) : d = ⟨#[]⟩ := by
  cases d with
  | mk a =>
    have : a.size = 0 := h
    rw [Array.eq_empty_of_size_eq_zero this]

theorem par_zeros (p : Nat) : par (List.replicate p 0) = .ok [] := by
  cases p with
  | zero => exact par_nil
  | succ q =>
    rw [List.replicate_succ, par_zero]
    simp

/-- What is encoded is read as it was. -/
theorem par_enc (l : List Opt) (p : Nat) (h : l.all right = true) : par (encRaw l ++ List.replicate p 0) = .ok l := by
  induction l with
  | nil => simpa [encRaw] using par_zeros p
  | cons o r ih =>
    simp only [List.all_cons, Bool.and_eq_true] at h
    obtain ⟨ho, hr⟩ := h
    have ih := ih hr
    obtain ⟨k, d⟩ := o
    unfold right at ho
    by_cases hk : k = 1
    · subst hk
      rw [if_pos rfl] at ho
      obtain rfl := empty_of_size d (of_decide_eq_true ho)
      simp only [encRaw, encOne, if_true, List.cons_append, List.nil_append]
      rw [par_one, ih]
    · rw [if_neg (by exact hk)] at ho
      simp at ho
      obtain ⟨h2, h255, h38⟩ := ho
      obtain ⟨n, rfl⟩ := Int.eq_ofNat_of_zero_le (show (0 : Int) ≤ k by omega)
      have hn : n < 256 := by omega
      have e1 : (UInt8.ofNat n).toNat = n := byte_eq n hn
      have e2 : (UInt8.ofNat (2 + d.size)).toNat = 2 + d.size := byte_eq _ (by omega)
      have n0 : UInt8.ofNat n ≠ 0 := fun h => by have := congrArg UInt8.toNat h; rw [e1] at this; simp at this; omega
      have n1 : UInt8.ofNat n ≠ 1 := fun h => by have := congrArg UInt8.toNat h; rw [e1] at this; simp at this; omega
      have hdl : d.data.toList.length = d.size := Array.length_toList
      simp only [encRaw, encOne]
      rw [if_neg hk]
      simp only [Int.toNat_natCast, List.cons_append, List.append_assoc]
      rw [par_long _ _ _ n0 n1, e2, if_neg (by simp only [List.length_append, hdl]; omega), if_neg (by omega)]
      have e3 : 2 + d.size - 2 = d.data.toList.length := by omega
      rw [e3, List.drop_left, List.take_left, ih, e1]

theorem parse_enc (l : List Opt) (h : l.all right = true) (hs : size l ≤ 40) : parse (enc l) = .ok l := by
  unfold parse
  rw [if_neg (by rw [enc_length]; omega), if_neg (by rw [enc_length, size_mod]; simp)]
  exact par_enc l _ h

end O
end Go.Proofs.YtncnildpbccpaaaDoor
