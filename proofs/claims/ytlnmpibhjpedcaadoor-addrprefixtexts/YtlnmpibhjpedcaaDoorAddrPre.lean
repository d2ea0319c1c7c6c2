/- The walk of a prefix that is told; kinds; the document's example. -/
import Derived.Test.YtlnmpibhjpedcaaDoorAddrParse
namespace Go.Proofs.YtlnmpibhjpedcaaDoor
open Go.RowKit

theorem parseIs_eq (s : ByteArray) : A.parseIs s = #[.int .u32 (((A.parse s).getD 0 : Nat) : Int), .bool (A.parse s).isSome] := by
  unfold A.parseIs; cases A.parse s <;> rfl
theorem numIs_eq (m : Nat) (s : ByteArray) : A.numIs m s = #[.int .i64 (((A.num m s).getD 0 : Nat) : Int), .bool (A.num m s).isSome] := by
  unfold A.numIs; cases A.num m s <;> rfl

theorem fold_lt : ∀ (l : List ByteArray) (a r : Nat), A.fold l a = some r → r < (a + 1) * 256 ^ l.length
  | [], a, r, h => by simp [A.fold] at h; subst h; simp
  | x :: l, a, r, h => by
    unfold A.fold at h
    cases hn : A.num 255 x with
    | none => rw [hn] at h; cases h
    | some n =>
      rw [hn] at h
      have h1 := fold_lt l _ r h
      have h2 := A.num_le hn
      rw [List.length_cons, Nat.pow_succ]
      have h3 : (a * 256 + n + 1) * 256 ^ l.length ≤ ((a + 1) * 256) * 256 ^ l.length := Nat.mul_le_mul_right _ (by omega)
      have h4 : (a + 1) * (256 ^ l.length * 256) = (a + 1) * 256 * 256 ^ l.length := by rw [Nat.mul_comm (256 ^ l.length), Nat.mul_assoc]
      omega

theorem parse_lt (s : ByteArray) : (A.parse s).getD 0 < 4294967296 := by
  cases h : A.parse s with
  | none => decide
  | some r =>
    unfold A.parse at h
    split at h
    · next h4 =>
      have := fold_lt _ _ _ h
      rw [h4] at this
      simpa using this
    · cases h

/-- The prefix that a text tells. -/
def A.prefix (s : ByteArray) : Option (Nat × Nat) :=
  let c := Lib.cut s.data.toList [47]
  match A.parse ⟨c.1.toArray⟩, A.num 32 ⟨c.2.1.toArray⟩ with
  | some a, some b => if A.right a b then some (a, b) else none
  | _, _ => none
def A.prefixIs (s : ByteArray) : Array Value := match A.prefix s with | some (a, b) => #[.agg #[.int .u32 a, .int .i64 b], .bool true] | none => #[.agg #[.int .u32 0, .int .i64 0], .bool false]

theorem cut_size (s sep : List UInt8) : (Lib.cut s sep).1.length ≤ s.length ∧ (Lib.cut s sep).2.1.length ≤ s.length := by
  unfold Lib.cut
  split <;> simp <;> omega

theorem blk_facts {w : World} {N : Nat} {x y : Value} (h : w.heap[N]? = some (.cells #[x, y] 30 (0, 0))) :
    w.cell? ⟨N, 0, none⟩ = some x ∧ w.cell? ⟨N, 1, none⟩ = some y ∧ w.frozen? ⟨N, 0, none⟩ = false ∧ w.frozen? ⟨N, 1, none⟩ = false := by
  refine ⟨?_, ?_, ?_, ?_⟩ <;> simp [World.cell?, World.frozen?, h]

theorem blk_new (w : World) (o : Obj) : (w.alloc o).heap[w.heap.size]? = some o := by
  show (w.heap.push o)[w.heap.size]? = some o
  simp

theorem blk_alloc {w : World} {N : Nat} {o x : Obj} (h : w.heap[N]? = some o) : (w.alloc x).heap[N]? = some o := by
  have hN : N < w.heap.size := by
    rcases Nat.lt_or_ge N w.heap.size with h1 | h1
    · exact h1
    · rw [Array.getElem?_eq_none h1] at h; cases h
  rw [Below.heap_alloc w x N hN]; exact h

set_option maxHeartbeats 400000 in
theorem prefix_any (s : ByteArray) (w : World) (hl : s.size < 4294967281) (L : Laid w) :
    Calls Tryd.prog 21 #[.string s] w fun e w' => e = .returned (.tuple (A.prefixIs s)) ∧ Below w.heap.size w w' := by
  obtain ⟨m, hm⟩ := L.most
  have HL := Lib.hid L
  have hcs := cut_size s.data.toList [47]
  generalize hc1 : (⟨(Lib.cut s.data.toList [47]).1.toArray⟩ : ByteArray) = s1
  generalize hc2 : (⟨(Lib.cut s.data.toList [47]).2.1.toArray⟩ : ByteArray) = t2
  have z1 : s1.size ≤ s.size := by rw [← hc1]; exact hcs.1
  have z2 : t2.size ≤ s.size := by rw [← hc2]; exact hcs.2
  have Hp := Lib.hid (parse_lt s1)
  have e1 := Lib.hid (parseIs_eq s1)
  have e2 := Lib.hid (numIs_eq 32 t2)
  have E : A.prefix s = match A.parse s1, A.num 32 t2 with | some a, some b => if A.right a b then some (a, b) else none | _, _ => none := by
    unfold A.prefix; rw [← hc1, ← hc2]
  have HE := Lib.hid E
  have Hc1 := Lib.hid hc1
  have Hc2 := Lib.hid hc2
  clear L hcs hc1 hc2 E
  go_enter Tryd.func21, Tryd.ntmps21
  go_wp2_with fail
  have hm0 : (w.alloc (.cells #[.int .u32 0, .int .i64 0] 30)).cell? ⟨0, 0, none⟩ = some (.int .i64 m) := by
    rw [((Below.refl w.heap.size w).alloc (Nat.le_refl _) _).cell (p := ⟨0, 0, none⟩) (show 0 < w.heap.size by have := HL.out.size; omega)]; exact hm
  refine (Tryd.strings_Cut s ⟨#[47]⟩ m _ hl hm0).mono ?_
  rintro e w1 ⟨rfl, n1, hw1⟩
  have k1 : Below (w.heap.size + 1) (w.alloc (.cells #[.int .u32 0, .int .i64 0] 30)) w1 := by subst hw1; exact below_drewN (Below.refl _ _) _
  have k0 : Below w.heap.size w w1 := ((Below.refl w.heap.size w).alloc (Nat.le_refl _) _).trans (k1.mono (by omega))
  have s0 : w.heap.size + 1 ≤ w1.heap.size := by have := k1.size; simp at this; omega
  rw [show (⟨#[47]⟩ : ByteArray).data.toList = [47] from rfl, Hc1.out, Hc2.out]
  have K1 := Lib.hid k1
  have K0 := Lib.hid k0
  have Hz1 := Lib.hid z1
  have Hz2 := Lib.hid z2
  have Hl := Lib.hid hl
  clear hw1 k1 k0 z1 z2 hl hm hm0
  go_wp2_with fail
  refine (parse_any s1 w1 (by have := Hz1.out; have := Hl.out; omega) (HL.out.below HL.out.size K0.out K0.out.size)).mono ?_
  rintro e w2 ⟨rfl, hb2⟩
  rw [e1.out]
  have K2 := Lib.hid (K0.out.trans (hb2.mono K0.out.size))
  have J2 := Lib.hid (K1.out.trans (hb2.mono s0))
  have s2 : w.heap.size + 1 ≤ w2.heap.size := by have := hb2.size; omega
  clear hb2 s0 K1 K0
  go_wp2_with fail
  refine (number_any t2 32 w2 (by have := Hz2.out; have := Hl.out; omega) (HL.out.below HL.out.size K2.out K2.out.size) (by decide)).mono ?_
  rintro e w3 ⟨rfl, hb3⟩
  rw [e2.out]
  have K3 := Lib.hid (K2.out.trans (hb3.mono K2.out.size))
  have J3 := J2.out.trans (hb3.mono s2)
  have s3 : w.heap.size + 1 ≤ w3.heap.size := by have := hb3.size; omega
  have hblk : w3.heap[w.heap.size]? = some (.cells #[.int .u32 0, .int .i64 0] 30 (0, 0)) := by rw [J3.block w.heap.size (Nat.lt_succ_self _)]; exact blk_new _ _
  have Hblk := Lib.hid hblk
  clear hb3 s2 K2 J2 J3 hblk
  cases h1 : A.parse s1 with
  | none =>
    have E0 := Lib.hid (show A.prefixIs s = #[.agg #[.int .u32 0, .int .i64 0], .bool false] by unfold A.prefixIs; rw [HE.out, h1])
    clear h1
    generalize (A.num 32 t2).getD 0 = b at *
    obtain ⟨q0, q1, f0, f1⟩ := blk_facts (blk_alloc (x := .cells #[.int .u32 0, .int .i64 b] 30) Hblk.out)
    cases (A.num 32 t2).isSome
    · go_wp2
      exact bodyPost_ret (v := .tuple #[.agg #[.int .u32 0, .int .i64 0], .bool false]) (by simp [results, Tryd.results21, go_sem, q0, q1]) rfl ⟨by rw [E0.out], ((K3.out.alloc (by omega) _).setCell (Nat.le_refl _) _).setCell (Nat.le_refl _) _⟩
    · go_wp2
      exact bodyPost_ret (v := .tuple #[.agg #[.int .u32 0, .int .i64 0], .bool false]) (by simp [results, Tryd.results21, go_sem, q0, q1]) rfl ⟨by rw [E0.out], ((K3.out.alloc (by omega) _).setCell (Nat.le_refl _) _).setCell (Nat.le_refl _) _⟩
  | some a =>
    have ha : a < 4294967296 := by have := Hp.out; rw [h1] at this; exact this
    cases h2 : A.num 32 t2 with
    | none =>
      have E0 := Lib.hid (show A.prefixIs s = #[.agg #[.int .u32 0, .int .i64 0], .bool false] by unfold A.prefixIs; rw [HE.out, h1, h2])
      clear h1 h2
      obtain ⟨q0, q1, f0, f1⟩ := blk_facts (blk_alloc (x := .cells #[.int .u32 a, .int .i64 0] 30) Hblk.out)
      go_wp2
      exact bodyPost_ret (v := .tuple #[.agg #[.int .u32 0, .int .i64 0], .bool false]) (by simp [results, Tryd.results21, go_sem, q0, q1]) rfl ⟨by rw [E0.out], ((K3.out.alloc (by omega) _).setCell (Nat.le_refl _) _).setCell (Nat.le_refl _) _⟩
    | some b =>
      cases hr : A.right a b
      · have E0 := Lib.hid (show A.prefixIs s = #[.agg #[.int .u32 0, .int .i64 0], .bool false] by unfold A.prefixIs; rw [HE.out, h1, h2]; simp only []; rw [hr]; rfl)
        have Hr := Lib.hid hr
        clear h1 h2 hr
        go_wp2_with fail
        refine (right_any a b _ ha).mono ?_
        rintro e w4 ⟨rfl, hb4⟩
        rw [Hr.out]
        have b4 : w4.heap[w.heap.size]? = some (.cells #[.int .u32 0, .int .i64 0] 30 (0, 0)) := by
          rw [hb4.block w.heap.size (by simp; omega)]; exact blk_alloc Hblk.out
        have K4 := Lib.hid ((K3.out.alloc (by omega) _).trans (hb4.mono (by simp; omega)))
        obtain ⟨q0, q1, f0, f1⟩ := blk_facts b4
        clear hb4 b4
        go_wp2
        exact bodyPost_ret (v := .tuple #[.agg #[.int .u32 0, .int .i64 0], .bool false]) (by simp [results, Tryd.results21, go_sem, q0, q1]) rfl ⟨by rw [E0.out], (K4.out.setCell (Nat.le_refl _) _).setCell (Nat.le_refl _) _⟩
      · have E0 := Lib.hid (show A.prefixIs s = #[.agg #[.int .u32 a, .int .i64 b], .bool true] by unfold A.prefixIs; rw [HE.out, h1, h2]; simp only []; rw [hr]; rfl)
        have Hr := Lib.hid hr
        clear h1 h2 hr
        go_wp2_with fail
        refine (right_any a b _ ha).mono ?_
        rintro e w4 ⟨rfl, hb4⟩
        rw [Hr.out]
        have b4 : w4.heap[w.heap.size]? = some (.cells #[.int .u32 0, .int .i64 0] 30 (0, 0)) := by
          rw [hb4.block w.heap.size (by simp; omega)]; exact blk_alloc Hblk.out
        have b5 : w4.heap[w3.heap.size]? = some (.cells #[.int .u32 a, .int .i64 b] 30 (0, 0)) := by
          rw [hb4.block w3.heap.size (by simp)]; exact blk_new _ _
        have K4 := Lib.hid ((K3.out.alloc (by omega) _).trans (hb4.mono (by simp; omega)))
        obtain ⟨q0, q1, f0, f1⟩ := blk_facts b4
        obtain ⟨r0, r1, _, _⟩ := blk_facts b5
        clear hb4 b4 b5
        go_wp2
        exact bodyPost_ret (v := .tuple #[.agg #[.int .u32 a, .int .i64 b], .bool true]) (by simp [results, Tryd.results21, go_sem, q0, q1]) rfl ⟨by rw [E0.out], (K4.out.setCell (Nat.le_refl _) _).setCell (Nat.le_refl _) _⟩
#print axioms prefix_any
end Go.Proofs.YtlnmpibhjpedcaaDoor
