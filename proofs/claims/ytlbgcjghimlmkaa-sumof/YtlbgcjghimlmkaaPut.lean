/- The walks of sum.Put, of the document's own Put, and of sum.Good. -/
import Derived.Test.YtlbgcjghimlmkaaUpdMath
import Derived.Test.YtlbgcjghimlmkaaDone
import Derived.BigQuiet
import Derived.Deep.QuietTactic
import Derived.Deep.RegionHeld3
namespace Go.Proofs.Ytlbgcjghimlmkaa
open Go.RowKit

theorem two_zero : two 0 = (⟨#[0, 0]⟩ : ByteArray) := by decide

theorem ofs_le (l : List ByteArray) : M.ofs l ≤ 65535 := by unfold M.ofs; omega

theorem two_be2 (n : Nat) : (⟨(addTo [] (be2 n)).toArray⟩ : ByteArray) = two n := by
  have e : UInt8.ofNat (n % 256) = UInt8.ofNat n := by
    apply UInt8.toNat_inj.1
    simp
  unfold two be2 addTo
  rw [e]
  rfl

/-- The check sum that a text has with noughts at k. -/
def csum (s : ByteArray) (k : Nat) : Nat := M.ofs [swap s k 0]

theorem csum_parts (s : ByteArray) (k : Nat) : M.ofs [s.extract 0 k, ⟨#[0, 0]⟩, s.extract (k + 2) s.size] = csum s k := by
  unfold csum swap
  rw [two_zero]
  simp [M.ofs, M.tot, ByteArray.data_append]

theorem csum_joined (s : ByteArray) (k : Nat) : M.ofs [s.extract 0 k ++ (⟨#[0, 0]⟩ : ByteArray) ++ s.extract (k + 2) s.size] = csum s k := by
  unfold csum swap
  rw [two_zero]

theorem fold_put (P Q : Nat) : M.fold (P + (65535 - M.fold (P + 0 + Q)) + Q) = 65535 := by
  have h := M.fold_le (P + 0 + Q)
  by_cases g : P + 0 + Q = 0
  · have : M.fold (P + 0 + Q) = 0 := by rw [g]; rfl
    rw [this]
    unfold M.fold
    rw [if_neg (by omega)]
    omega
  · have e : M.fold (P + 0 + Q) = (P + 0 + Q - 1) % 65535 + 1 := by unfold M.fold; rw [if_neg g]
    rw [e]
    unfold M.fold
    rw [if_neg (by omega)]
    omega

theorem put_is_good (s : ByteArray) (k : Nat) (he : k % 2 = 0) (h : k + 2 ≤ s.size) : M.ofs [swap s k (csum s k)] = 0 := by
  rw [ofs_one, acc_swap s k (csum s k) (ofs_le _) he h]
  unfold csum
  rw [ofs_one, acc_swap s k 0 (by omega) he h, fold_put]

theorem IntRow.one (n : Int) (w : World) : IntRow [n] w.heap.size (w.alloc (.cells #[.int .i64 n] 3)) :=
  ⟨_, heap_alloc_new w _, fun i hi => by
    match i, hi with
    | 0, _ => rfl⟩

theorem newCell (W : World) (cs : Array Value) (t : TypeId) (n i : Nat) (v : Value) (hn : n = W.heap.size) (hv : cs[i]? = some v) : (W.alloc (.cells cs t)).cell? ⟨n, i, none⟩ = some v := by
  subst hn
  rw [World.cell?_alloc_new]
  exact hv

theorem Wr.carry {base b : Nat} {l : List UInt8} {w w' : World} (h : Wr base b l w) (hb : Below w.heap.size w w') : Wr base b l w' := by
  obtain ⟨hlow, ao, cap, hcell, hbuf⟩ := h
  have hg : w.grownBy w' none := ⟨hb.os, hb.tape, hb.output, hb.size, fun k hk _ => hb.block k hk⟩
  exact ⟨hlow, ao, cap, (hb.block b (lt_of_block hcell)).trans hcell, World.ownsRow.kept hbuf hg (by cases Value.ownBlock (.slice ao l.length cap) <;> simp)⟩

set_option maxHeartbeats 400000 in
theorem good_one (A : ByteArray) (b : Nat) (w : World) (hb : b < w.heap.size) (h0 : w.cell? ⟨b, 0, none⟩ = some (.string A)) (hs : A.size ≤ 100000) (hg : M.ofs [A] = 0) :
    Calls Try.prog 10 #[.slice (some ⟨b, 0, none⟩) 1 1] w fun e w' => e = .returned (.bool true) ∧ Below w.heap.size w w' := by
  have Hg := Lib.hid hg
  clear hg
  go_enter Try.func10, Try.ntmps10
  go_wp2_with fail
  refine (of_one A b w hb h0 hs).mono ?_
  rintro e w1 ⟨rfl, hb1⟩
  rw [Hg.out]
  go_wp2
  go_ret
  exact ⟨rfl, hb1⟩

/-- Where a check sum can't be put. -/
def noPlace (s : ByteArray) (p : Int) : Prop := p < 0 ∨ p % 2 ≠ 0 ∨ (s.size : Int) - 2 < p

set_option maxHeartbeats 400000 in
theorem put_bad (s : ByteArray) (p : Int) (w : World) (hs : s.size ≤ 3000) (h : noPlace s p) :
    Calls Try.prog 13 #[.string s, .int .i64 p] w fun e w' => e = .returned (.tuple #[.string ⟨#[]⟩, .int .i64 1]) ∧ w = w' := by
  by_cases h0 : p < 0
  · clear h
    go_enter Try.func13, Try.ntmps13
    go_wp2
    go_ret2
    exact ⟨rfl, rfl⟩
  · obtain ⟨k, rfl⟩ := Int.eq_ofNat_of_zero_le (show 0 ≤ p by omega)
    by_cases h1 : k % 2 = 1
    · have hb : (((k : Int) % 2) != 0) = true := by rw [bne_iff_ne]; omega
      clear h
      go_enter Try.func13, Try.ntmps13
      go_wp2
      go_ret2
      exact ⟨rfl, rfl⟩
    · have hb : (((k : Int) % 2) != 0) = false := by rw [bne_eq_false_iff_eq]; omega
      have hc : (s.size : Int) - 2 < (k : Int) := by rcases h with h | h | h <;> omega
      clear h
      go_enter Try.func13, Try.ntmps13
      go_wp2
      go_ret2
      exact ⟨rfl, rfl⟩

set_option maxHeartbeats 2000000 in
set_option maxRecDepth 100000 in
theorem put_good (s : ByteArray) (k : Nat) (w : World) (hs : s.size ≤ 3000) (he : k % 2 = 0) (hk : k + 2 ≤ s.size) :
    Calls Try.prog 13 #[.string s, .int .i64 k] w fun e w' => e = .returned (.tuple #[.string (swap s k (csum s k)), .int .i64 0]) ∧ Below w.heap.size w w' := by
  have hb : (((k : Int) % 2) != 0) = false := by rw [bne_eq_false_iff_eq]; omega
  have Hsw := Lib.hid (show swap s k (csum s k) = s.extract 0 k ++ two (csum s k) ++ s.extract (k + 2) s.size from rfl)
  have Hcs := Lib.hid (csum_parts s k)
  have hcl : csum s k ≤ 65535 := ofs_le _
  generalize swap s k (csum s k) = t at *
  generalize csum s k = c at *
  have z1 : (s.extract 0 k).size ≤ 3000 := by rw [ByteArray.size_extract]; omega
  have z2 : (s.extract (k + 2) s.size).size ≤ 3000 := by rw [ByteArray.size_extract]; omega
  have k1 : ¬ (s.size : Int) - 2 < (k : Int) := by omega
  go_enter Try.func13, Try.ntmps13
  go_wp2
  have j1 : (k : Int) + 2 ≤ (s.size : Int) := by omega
  have j2 : 0 ≤ (k : Int) + 2 := by omega
  have j3 : ((k : Int) + 2).toNat = k + 2 := by omega
  have j4 : IntKind.i64.wrap ((k : Int) + 2) = (k : Int) + 2 := IntWalk.i64_in _ (by omega)
  have j5 : (k : Int) ≤ (s.size : Int) := by omega
  have j6 : k ≤ s.size := by omega
  go_quiet (fail)
  generalize s.extract 0 k = A at *
  generalize s.extract (k + 2) s.size = B at *
  go_wp2_with fail
  refine (of_three A ⟨#[0, 0]⟩ B _ _ (by simp) (newCell _ _ _ _ _ _ (by simp) rfl) (newCell _ _ _ _ _ _ (by simp) rfl) (newCell _ _ _ _ _ _ (by simp) rfl) (by show A.size + 2 + B.size ≤ 100000; omega)).mono ?_
  rintro e w1 ⟨rfl, hb1⟩
  have hwr : Wr w.heap.size w.heap.size [] w1 := ((Wr.new (w.drewN nq)).alloc _).carry hb1
  have hz1 : w.heap.size + 2 ≤ w1.heap.size := by have := hb1.size; simp at this; omega
  have hbel : Below w.heap.size w w1 := ((((below_drewN (Below.refl _ w) nq)).alloc (Nat.le_refl _) _).alloc (by simp) _).trans (hb1.mono (by simp; omega))
  clear hb1
  rw [Hcs.out]
  go_wp2_with fail
  refine (Short_any w.heap.size w.heap.size _ 1 [] [(c : Int)] _ (hwr.alloc _) (by simp) (IntRow.one _ w1) (by omega) (by simp)).mono ?_
  rintro e w2 ⟨rfl, haf, hkp⟩
  have hpt : puts be2 65535 [] [(c : Int)] = some (addTo [] (be2 c)) := by simp [puts]; omega
  rw [hpt] at haf
  clear hpt
  have hwr2 := haf.1
  clear haf
  go_wp2_with fail
  refine (Done_any w.heap.size w.heap.size _ w2 hwr2 (by unfold addTo; simp [be2])).mono ?_
  rintro e w3 ⟨rfl, rfl⟩
  rw [two_be2]
  have z3 := two_size c
  go_wp2
  go_ret2
  exact ⟨by rw [Hsw.out]; rfl, (hbel.alloc (by omega) _).trans hkp.below⟩

/-- The document's own text with its check sum. -/
theorem refput_any (s : ByteArray) (k : Nat) (w : World) (hs : s.size ≤ 3000) (hk : k + 2 ≤ s.size) :
    Calls Try.prog 14 #[.string s, .int .i64 k] w fun e w' => e = .returned (.string (swap s k (csum s k))) ∧ Below w.heap.size w w' := by
  have Hsw := Lib.hid (show swap s k (csum s k) = s.extract 0 k ++ two (csum s k) ++ s.extract (k + 2) s.size from rfl)
  have Hcs := Lib.hid (csum_joined s k)
  have hcl : csum s k ≤ 65535 := ofs_le _
  generalize swap s k (csum s k) = t at *
  generalize csum s k = c at *
  have q3 : (s.extract 0 k).size = k := by rw [ByteArray.size_extract]; omega
  have q5 : (s.extract (k + 2) s.size).size = s.size - (k + 2) := by rw [ByteArray.size_extract]; omega
  have q4 : (s.extract 0 k ++ (⟨#[0, 0]⟩ : ByteArray)).size = k + 2 := by rw [ByteArray.size_append, q3]; rfl
  have q8 : (s.extract 0 k ++ two c).size = k + 2 := by rw [ByteArray.size_append, q3, two_size]
  have q9 : (s.extract 0 k ++ (⟨#[0, 0]⟩ : ByteArray) ++ s.extract (k + 2) s.size).size ≤ 100000 := by rw [ByteArray.size_append, q4, q5]; omega
  have Q9 := Lib.hid q9
  clear q9
  have z1 := two_size c
  have z2 : ByteArray.size (⟨#[0, 0]⟩ : ByteArray) = 2 := rfl
  have q1 : (k : Int) ≤ (s.size : Int) := by omega
  have q2 : k ≤ s.size := by omega
  have q6 : (9223372036854775807 < k + 2) = False := by simp; omega
  have q7 : (9223372036854775807 < s.size) = False := by simp; omega
  have j1 : (k : Int) + 2 ≤ (s.size : Int) := by omega
  have j2 : 0 ≤ (k : Int) + 2 := by omega
  have j3 : ((k : Int) + 2).toNat = k + 2 := by omega
  have j4 : IntKind.i64.wrap ((k : Int) + 2) = (k : Int) + 2 := IntWalk.i64_in _ (by omega)
  go_enter Try.func14, Try.ntmps14
  go_wp2
  go_region_held3 (fun _ => True) (exact trivial) (first
    | ((go_at_call 8; (with_reducible refine (refof_any _ _ Q9.out).mono ?_); rintro e w1 ⟨rfl, rfl⟩; rw [Hcs.out]))
    | ((go_at_call 16; (with_reducible refine (short_any c _ hcl).mono ?_); rintro e w1 ⟨rfl, hb⟩)))
  go_wp2
  go_ret
  exact ⟨by rw [Hsw.out]; rfl, ((Below.refl _ _).drew).trans (by assumption)⟩
#print axioms put_good
#print axioms refput_any
end Go.Proofs.Ytlbgcjghimlmkaa
