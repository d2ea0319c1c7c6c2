/- The walk of an address's text. -/
import Derived.Test.YtlnmpibhjpedcaaDoorAddrDigits
namespace Go.Proofs.YtlnmpibhjpedcaaDoor
open Go.RowKit

/-- A number's text. -/
def A.told (n : Nat) : ByteArray := ⟨(Lib.itoa (n : Int)).toArray⟩
/-- An address's text. -/
def A.text (a : Nat) : ByteArray := ⟨(Lib.join [(A.told (a / 16777216)).data.toList, (A.told (a / 65536 % 256)).data.toList, (A.told (a / 256 % 256)).data.toList, (A.told (a % 256)).data.toList] [46]).toArray⟩

theorem set_blk {w : World} {N k : Nat} {cs : Array Value} {t : TypeId} (v : Value) (h : w.heap[N]? = some (.cells cs t (0, 0))) : (w.setCell ⟨N, k, none⟩ v).heap[N]? = some (.cells (cs.setIfInBounds k v) t (0, 0)) := by
  simp [World.setCell, Array.getElem?_modify, h]

theorem blk_keep {v v' : World} {N : Nat} {o : Obj} (hb : Below v.heap.size v v') (h : v.heap[N]? = some o) : v'.heap[N]? = some o := by
  have hN : N < v.heap.size := by
    rcases Nat.lt_or_ge N v.heap.size with h1 | h1
    · exact h1
    · rw [Array.getElem?_eq_none h1] at h; cases h
  rw [hb.block N hN]; exact h

theorem four_facts {w : World} {N : Nat} {s0 s1 s2 s3 : ByteArray} (h : w.heap[N]? = some (.cells #[.string s0, .string s1, .string s2, .string s3] 48 (0, 0))) (k : Nat) (hk : k < 4) :
    (∃ s, w.cell? ⟨N, k, none⟩ = some (.string s)) ∧ w.frozen? ⟨N, k, none⟩ = false := by
  refine ⟨?_, by simp [World.frozen?, h]⟩
  match k, hk with
  | 0, _ => exact ⟨s0, by simp [World.cell?, h]⟩
  | 1, _ => exact ⟨s1, by simp [World.cell?, h]⟩
  | 2, _ => exact ⟨s2, by simp [World.cell?, h]⟩
  | 3, _ => exact ⟨s3, by simp [World.cell?, h]⟩

theorem told_len : ∀ n, n ≤ 255 → (A.told n).data.toList.length ≤ 3 := by
  have h : ((List.range 256).all fun n => decide ((A.told n).data.toList.length ≤ 3)) = true := by kernel_rfl
  intro n hn
  have := List.all_eq_true.1 h n (List.mem_range.2 (by omega))
  simpa using this

theorem join_four {n0 n1 n2 n3 : Nat} (l0 : n0 ≤ 255) (l1 : n1 ≤ 255) (l2 : n2 ≤ 255) (l3 : n3 ≤ 255) :
    (Lib.join ([A.told n0, A.told n1, A.told n2, A.told n3].map (·.data.toList)) (ByteArray.mk #[46]).data.toList).length ≤ 140737488355328 := by
  have h0 := told_len n0 l0
  have h1 := told_len n1 l1
  have h2 := told_len n2 l2
  have h3 := told_len n3 l3
  simp only [List.map_cons, List.map_nil, Lib.join_cons, Lib.joinTail, List.flatten_cons, List.flatten_nil, List.length_append, List.length_nil]
  simp at h0 h1 h2 h3 ⊢
  omega

set_option maxRecDepth 8000 in
set_option maxHeartbeats 1000000 in
theorem text_any (a : Nat) (w : World) (ha : a < 4294967296) (L : Laid w) :
    Calls Tryd.prog 10 #[.int .u32 a] w fun e w' => e = .returned (.string (A.text a)) ∧ Below w.heap.size w w' := by
  have HL := Lib.hid L
  have Ha := Lib.hid ha
  have E0 : (a : Int) / 16777216 = ((a / 16777216 : Nat) : Int) := by omega
  have E1 : (a : Int) / 65536 % 256 = ((a / 65536 % 256 : Nat) : Int) := by omega
  have E2 : (a : Int) / 256 % 256 = ((a / 256 % 256 : Nat) : Int) := by omega
  have E3 : (a : Int) % 256 = ((a % 256 : Nat) : Int) := by omega
  have HT := Lib.hid (show A.text a = ⟨(Lib.join [(A.told (a / 16777216)).data.toList, (A.told (a / 65536 % 256)).data.toList, (A.told (a / 256 % 256)).data.toList, (A.told (a % 256)).data.toList] [46]).toArray⟩ from rfl)
  have l0 : a / 16777216 ≤ 255 := by omega
  have l1 : a / 65536 % 256 ≤ 255 := by omega
  have l2 : a / 256 % 256 ≤ 255 := by omega
  have l3 : a % 256 ≤ 255 := by omega
  generalize a / 16777216 = n0 at *
  generalize a / 65536 % 256 = n1 at *
  generalize a / 256 % 256 = n2 at *
  generalize a % 256 = n3 at *
  have F0 := Lib.hid E0
  have F1 := Lib.hid E1
  have F2 := Lib.hid E2
  have F3 := Lib.hid E3
  clear L ha E0 E1 E2 E3
  have x0 : ∀ (w : World) (y0 y1 y2 y3 : Value), (Instr.index 49 (.agg #[y0, y1, y2, y3]) (.int .i64 ((0 : Nat) : Int))).run Tryd.prog w = .ok y0 w := fun _ _ _ _ _ => by kernel_rfl
  have x1 : ∀ (w : World) (y0 y1 y2 y3 : Value), (Instr.index 49 (.agg #[y0, y1, y2, y3]) (.int .i64 ((1 : Nat) : Int))).run Tryd.prog w = .ok y1 w := fun _ _ _ _ _ => by kernel_rfl
  have x2 : ∀ (w : World) (y0 y1 y2 y3 : Value), (Instr.index 49 (.agg #[y0, y1, y2, y3]) (.int .i64 ((2 : Nat) : Int))).run Tryd.prog w = .ok y2 w := fun _ _ _ _ _ => by kernel_rfl
  have x3 : ∀ (w : World) (y0 y1 y2 y3 : Value), (Instr.index 49 (.agg #[y0, y1, y2, y3]) (.int .i64 ((3 : Nat) : Int))).run Tryd.prog w = .ok y3 w := fun _ _ _ _ _ => by kernel_rfl
  have z0 : ∀ (w : World) (y0 y1 y2 y3 : Value), (Instr.index 49 (.agg #[y0, y1, y2, y3]) (.int .i64 0)).run Tryd.prog w = .ok y0 w := fun _ _ _ _ _ => by kernel_rfl
  have z1 : ∀ (w : World) (y0 y1 y2 y3 : Value), (Instr.index 49 (.agg #[y0, y1, y2, y3]) (.int .i64 1)).run Tryd.prog w = .ok y1 w := fun _ _ _ _ _ => by kernel_rfl
  have z2 : ∀ (w : World) (y0 y1 y2 y3 : Value), (Instr.index 49 (.agg #[y0, y1, y2, y3]) (.int .i64 2)).run Tryd.prog w = .ok y2 w := fun _ _ _ _ _ => by kernel_rfl
  have z3 : ∀ (w : World) (y0 y1 y2 y3 : Value), (Instr.index 49 (.agg #[y0, y1, y2, y3]) (.int .i64 3)).run Tryd.prog w = .ok y3 w := fun _ _ _ _ _ => by kernel_rfl
  go_enter Tryd.func10, Tryd.ntmps10
  go_wp2_with fail
  refine (split_any a _ Ha.out).mono ?_
  rintro e w1 ⟨rfl, hb⟩
  rw [F0.out, F1.out, F2.out, F3.out]
  have k1 : Below w.heap.size w w1 := ((Below.refl _ w).alloc (Nat.le_refl _) _).trans (hb.mono (by simp))
  have b1 : w1.heap[w.heap.size]? = some (.cells #[.string ⟨#[]⟩, .string ⟨#[]⟩, .string ⟨#[]⟩, .string ⟨#[]⟩] 48 (0, 0)) := by
    rw [hb.block w.heap.size (by simp)]; exact blk_new _ _
  have B1 := Lib.hid b1
  have K1 := Lib.hid k1
  clear hb b1 k1
  go_wp2_with fail
  go_loopw [8] (fun i wr => ∃ (k : Nat) (s0 s1 s2 s3 : ByteArray), k ≤ 4 ∧ i = .int .i64 k ∧ Hid (wr.heap[w.heap.size]? = some (.cells #[.string s0, .string s1, .string s2, .string s3] 48 (0, 0))) ∧ Hid (1 ≤ k → s0 = A.told n0) ∧ Hid (2 ≤ k → s1 = A.told n1) ∧ Hid (3 ≤ k → s2 = A.told n2) ∧ Hid (4 ≤ k → s3 = A.told n3) ∧ Hid (Below w.heap.size w wr)) (fun i _ => 4 - (intOf i).toNat)
  case atStart => exact ⟨0, ⟨#[]⟩, ⟨#[]⟩, ⟨#[]⟩, ⟨#[]⟩, by decide, rfl, B1, fun h => by omega, fun h => by omega, fun h => by omega, fun h => by omega, K1⟩
  case round =>
    obtain ⟨k, s0, s1, s2, s3, hk, rfl, hbk, h0, h1, h2, h3, hB⟩ := hrel
    rcases (show k = 0 ∨ k = 1 ∨ k = 2 ∨ k = 3 ∨ k = 4 by omega) with rfl | rfl | rfl | rfl | rfl
    · go_wp2_with fail
      refine (Tryd.strconv_Itoa (n0 : Int) (by omega) (by omega) wr (HL.out.below HL.out.size hB.out hB.out.size).tab).mono ?_
      rintro e w3 ⟨rfl, kk, os, hw3⟩
      rw [show (⟨(Lib.itoa (n0 : Int)).toArray⟩ : ByteArray) = A.told n0 from rfl]
      have hg : Below wr.heap.size wr w3 := by subst hw3; exact Lib.below_grow _ _ (Nat.le_refl _) _ _
      have bk := blk_keep hg hbk.out
      have HK := Lib.hid (hB.out.trans (hg.mono hB.out.size))
      clear hw3 hg
      obtain ⟨⟨sx, c⟩, f⟩ := four_facts bk 0 (by decide)
      have BS := Lib.hid (set_blk (k := 0) (.string (A.told n0)) bk)
      clear bk
      go_wp2_with fail
      go_roundw
      case rel => exact ⟨1, (A.told n0), s1, s2, s3, by decide, by go_num, BS, (fun _ => rfl), (fun h => by omega), (fun h => by omega), (fun h => by omega), HK.out.setCell (Nat.le_refl _) _⟩
      case measure => simp [intOf]
    · go_wp2_with fail
      refine (Tryd.strconv_Itoa (n1 : Int) (by omega) (by omega) wr (HL.out.below HL.out.size hB.out hB.out.size).tab).mono ?_
      rintro e w3 ⟨rfl, kk, os, hw3⟩
      rw [show (⟨(Lib.itoa (n1 : Int)).toArray⟩ : ByteArray) = A.told n1 from rfl]
      have hg : Below wr.heap.size wr w3 := by subst hw3; exact Lib.below_grow _ _ (Nat.le_refl _) _ _
      have bk := blk_keep hg hbk.out
      have HK := Lib.hid (hB.out.trans (hg.mono hB.out.size))
      clear hw3 hg
      obtain ⟨⟨sx, c⟩, f⟩ := four_facts bk 1 (by decide)
      have BS := Lib.hid (set_blk (k := 1) (.string (A.told n1)) bk)
      clear bk
      go_wp2_with fail
      go_roundw
      case rel => exact ⟨2, s0, (A.told n1), s2, s3, by decide, by go_num, BS, (fun _ => h0.out (by omega)), (fun _ => rfl), (fun h => by omega), (fun h => by omega), HK.out.setCell (Nat.le_refl _) _⟩
      case measure => simp [intOf]
    · go_wp2_with fail
      refine (Tryd.strconv_Itoa (n2 : Int) (by omega) (by omega) wr (HL.out.below HL.out.size hB.out hB.out.size).tab).mono ?_
      rintro e w3 ⟨rfl, kk, os, hw3⟩
      rw [show (⟨(Lib.itoa (n2 : Int)).toArray⟩ : ByteArray) = A.told n2 from rfl]
      have hg : Below wr.heap.size wr w3 := by subst hw3; exact Lib.below_grow _ _ (Nat.le_refl _) _ _
      have bk := blk_keep hg hbk.out
      have HK := Lib.hid (hB.out.trans (hg.mono hB.out.size))
      clear hw3 hg
      obtain ⟨⟨sx, c⟩, f⟩ := four_facts bk 2 (by decide)
      have BS := Lib.hid (set_blk (k := 2) (.string (A.told n2)) bk)
      clear bk
      go_wp2_with fail
      go_roundw
      case rel => exact ⟨3, s0, s1, (A.told n2), s3, by decide, by go_num, BS, (fun _ => h0.out (by omega)), (fun _ => h1.out (by omega)), (fun _ => rfl), (fun h => by omega), HK.out.setCell (Nat.le_refl _) _⟩
      case measure => simp [intOf]
    · go_wp2_with fail
      refine (Tryd.strconv_Itoa (n3 : Int) (by omega) (by omega) wr (HL.out.below HL.out.size hB.out hB.out.size).tab).mono ?_
      rintro e w3 ⟨rfl, kk, os, hw3⟩
      rw [show (⟨(Lib.itoa (n3 : Int)).toArray⟩ : ByteArray) = A.told n3 from rfl]
      have hg : Below wr.heap.size wr w3 := by subst hw3; exact Lib.below_grow _ _ (Nat.le_refl _) _ _
      have bk := blk_keep hg hbk.out
      have HK := Lib.hid (hB.out.trans (hg.mono hB.out.size))
      clear hw3 hg
      obtain ⟨⟨sx, c⟩, f⟩ := four_facts bk 3 (by decide)
      have BS := Lib.hid (set_blk (k := 3) (.string (A.told n3)) bk)
      clear bk
      go_wp2_with fail
      go_roundw
      case rel => exact ⟨4, s0, s1, s2, (A.told n3), by decide, by go_num, BS, (fun _ => h0.out (by omega)), (fun _ => h1.out (by omega)), (fun _ => h2.out (by omega)), (fun _ => rfl), HK.out.setCell (Nat.le_refl _) _⟩
      case measure => simp [intOf]
    · have e0 := h0.out (by decide)
      have e1 := h1.out (by decide)
      have e2 := h2.out (by decide)
      have e3 := h3.out (by decide)
      subst e0 e1 e2 e3
      have hlt : w.heap.size < wr.heap.size := by
        rcases Nat.lt_or_ge w.heap.size wr.heap.size with h | h
        · exact h
        · have := hbk.out
          rw [Array.getElem?_eq_none h] at this; cases this
      go_wp2_with fail
      refine (Tryd.strings_Join w.heap.size 0 4 [A.told n0, A.told n1, A.told n2, A.told n3] ⟨#[46]⟩ wr ?_ hlt (by simp) (by simp) ?_).mono ?_
      · intro j x hx
        have := hbk.out
        match j, hx with
        | 0, hx => cases hx; simp [World.cell?, this]
        | 1, hx => cases hx; simp [World.cell?, this]
        | 2, hx => cases hx; simp [World.cell?, this]
        | 3, hx => cases hx; simp [World.cell?, this]
      · exact join_four l0 l1 l2 l3
      · rintro e w3 ⟨rfl, hb3⟩
        go_wp2
        go_ret
        exact ⟨by rw [HT.out]; rfl, hB.out.trans (hb3.mono hB.out.size)⟩
#print axioms text_any
end Go.Proofs.YtlnmpibhjpedcaaDoor
