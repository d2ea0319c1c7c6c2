/- The walks of what asks of a list of options: are all right, how many bytes have they, are there more than is asked of. -/
import Derived.Test.YtncnildpbccpaaaDoorOptLow
namespace Go.Proofs.YtncnildpbccpaaaDoor
set_option maxRecDepth 100000
open Go.RowKit

theorem getD_take (l : List Opt) (k : Nat) (h : k < l.length) : l.take (k + 1) = l.take k ++ [l.getD k noOpt] := by
  rw [List.take_succ_eq_append_getElem h, List.getD_eq_getElem?_getD, List.getElem?_eq_getElem h]; rfl

theorem all_take (p : Opt → Bool) (l : List Opt) (k : Nat) (h : k < l.length) (ha : (l.take k).all p = true) : (l.take (k + 1)).all p = p (l.getD k noOpt) := by
  rw [getD_take l k h, List.all_append, ha]; simp

theorem all_take_false (p : Opt → Bool) (l : List Opt) (k : Nat) (h : k < l.length) (ha : p (l.getD k noOpt) = false) : l.all p = false := by
  rw [List.all_eq_false]
  exact ⟨l.getD k noOpt, by rw [List.getD_eq_getElem?_getD, List.getElem?_eq_getElem h]; exact List.getElem_mem h, by rw [ha]; simp⟩

theorem getD_mem (l : List Opt) (k : Nat) (h : k < l.length) : l.getD k noOpt ∈ l := by
  rw [List.getD_eq_getElem?_getD, List.getElem?_eq_getElem h]; exact List.getElem_mem h

/-- An option of a row, in a later world. -/
theorem OptRow.then {W wr : World} {a : Option Addr} {l : List Opt} (h : OptRow W a l) (hb : Below W.heap.size W wr) (k : Nat) (hk : k < l.length) : ∃ b off, a = some ⟨b, off, none⟩ ∧ b < W.heap.size ∧
    wr.cell? ⟨b, off + k * 2, none⟩ = some (.int .i64 (l.getD k noOpt).kind) ∧ wr.cell? ⟨b, off + k * 2 + 1, none⟩ = some (.string (l.getD k noOpt).data) := by
  obtain ⟨b, off, ha, hlt, hc⟩ := h.at (by omega)
  refine ⟨b, off, ha, hlt, ?_⟩
  rw [hb.cell (p := ⟨b, off + k * 2, none⟩) hlt, hb.cell (p := ⟨b, off + k * 2 + 1, none⟩) hlt]
  exact hc k hk

set_option maxHeartbeats 400000 in
theorem optRight_any (a : Option Addr) (cap : Nat) (l : List Opt) (w : World) (h : OptRow w a l) (hl : l.length ≤ maxLen) (hd : ∀ o ∈ l, o.data.size ≤ maxLen) :
    Calls Tryd.prog 28 #[.slice a l.length cap] w fun e w' => e = .returned (.bool (l.all O.right)) ∧ Below w.heap.size w w' := by
  unfold maxLen at hl
  have Hrow := Lib.hid h
  have Hd := Lib.hid hd
  clear h hd
  obtain ⟨r, hr⟩ : ∃ r, l.all O.right = r := ⟨_, rfl⟩
  have Hr := Lib.hid hr
  rw [hr]
  clear hr
  go_enter Tryd.func28, Tryd.ntmps28
  go_wp2
  go_loopw [7] (fun i wr => ∃ k : Nat, k ≤ l.length ∧ i = .int .i64 k ∧ Hid ((l.take k).all O.right = true) ∧ Below w.heap.size w wr) (fun i _ => l.length - (intOf i).toNat)
  case atStart => exact ⟨0, Nat.zero_le _, rfl, Lib.hid rfl, Below.refl _ _⟩
  case round =>
    obtain ⟨k, hk, rfl, Ha, hb⟩ := hrel
    by_cases hlt : k < l.length
    · obtain ⟨b, off, rfl, hbl, c0, c1⟩ := Hrow.out.then hb k hlt
      have hz := Hd.out _ (getD_mem l k hlt)
      have Hq := Lib.hid (all_take O.right l k hlt Ha.out)
      have Hf := Lib.hid (all_take_false O.right l k hlt)
      generalize l.getD k noOpt = o at *
      obtain ⟨kd, d⟩ := o
      simp only at c0 c1 hz
      have hbs := hb.size
      go_wp2_with fail
      refine (rightOne_any kd d _ hz).mono ?_
      rintro e w2 ⟨rfl, hb2⟩
      have hbw : Below w.heap.size w w2 := (hb.alloc hbs _).trans (hb2.mono (by simp; omega))
      clear hb2 hb c0 c1
      cases hrt : O.right ⟨kd, d⟩ with
      | true =>
        have Hrt := Lib.hid hrt
        clear hrt
        go_wp2
        go_roundw
        case rel => exact ⟨k + 1, by omega, by go_num, Lib.hid (Hq.out.trans Hrt.out), hbw⟩
        case measure => simp [intOf]; omega
      | false =>
        have Hrt := Lib.hid hrt
        clear hrt
        go_wp2
        go_ret
        exact ⟨ret_bool (by rw [← Hr.out, Hf.out Hrt.out]), hbw⟩
    · go_wp2
      go_ret
      exact ⟨ret_bool (by rw [← Hr.out]; have := Ha.out; rw [List.take_of_length_le (by omega)] at this; exact this.symm), hb⟩

theorem raw_take (l : List Opt) (k : Nat) (h : k < l.length) : O.raw (l.take (k + 1)) = O.raw (l.take k) + O.sizeOne (l.getD k noOpt) := by
  rw [getD_take l k h, O.raw_append]; simp [O.raw]

theorem raw_le (l : List Opt) (h : ∀ o ∈ l, o.data.size ≤ 100) : O.raw l ≤ 102 * l.length := by
  induction l with
  | nil => simp [O.raw]
  | cons o r ih =>
    have h1 := h o (by simp)
    have h2 := ih (fun x hx => h x (by simp [hx]))
    have h3 : O.sizeOne o ≤ 102 := by unfold O.sizeOne; split <;> omega
    simp only [O.raw, List.length_cons]
    omega

theorem raw_take_le (l : List Opt) (k : Nat) (hk : k ≤ 60) (h : ∀ o ∈ l, o.data.size ≤ 100) : O.raw (l.take k) ≤ 6120 := by
  have h1 := raw_le (l.take k) (fun o ho => h o (List.mem_of_mem_take ho))
  have h2 : (l.take k).length ≤ k := List.length_take_le _ _
  omega

set_option maxHeartbeats 400000 in
theorem optSize_any (a : Option Addr) (cap : Nat) (l : List Opt) (w : World) (h : OptRow w a l) (hl : l.length ≤ 60) (hd : ∀ o ∈ l, o.data.size ≤ 100) :
    Calls Tryd.prog 29 #[.slice a l.length cap] w fun e w' => e = .returned (.int .i64 (O.size l)) ∧ Below w.heap.size w w' := by
  have Hrow := Lib.hid h
  have Hd := Lib.hid hd
  clear h hd
  go_enter Tryd.func29, Tryd.ntmps29
  go_wp2
  go_loopw [3, 8] (fun n i wr => ∃ k : Nat, k ≤ l.length ∧ i = .int .i64 k ∧ n = .int .i64 (O.raw (l.take k)) ∧ Below w.heap.size w wr) (fun _ i _ => l.length - (intOf i).toNat)
  case atStart => exact ⟨0, Nat.zero_le _, rfl, rfl, Below.refl _ _⟩
  case round =>
    obtain ⟨k, hk, rfl, rfl, hb⟩ := hrel
    have hraw := raw_take_le l k (by omega) Hd.out
    by_cases hlt : k < l.length
    · obtain ⟨b, off, rfl, hbl, c0, c1⟩ := Hrow.out.then hb k hlt
      have hz := Hd.out _ (getD_mem l k hlt)
      have Hq := Lib.hid (raw_take l k hlt)
      generalize l.getD k noOpt = o at *
      generalize O.raw (l.take k) = n at *
      have hso : O.sizeOne o ≤ 102 := by unfold O.sizeOne; split <;> omega
      obtain ⟨kd, d⟩ := o
      simp only at c0 c1 hz
      have hbs := hb.size
      go_wp2_with fail
      refine (sizeOne_any kd d _ (by omega)).mono ?_
      rintro e w2 ⟨rfl, hb2⟩
      have hbw : Below w.heap.size w w2 := (hb.alloc hbs _).trans (hb2.mono (by simp; omega))
      clear hb2 hb c0 c1
      generalize O.sizeOne ⟨kd, d⟩ = m at *
      go_wp2
      go_roundw
      case rel => exact ⟨k + 1, by omega, by go_num, by rw [Hq.out]; go_num, hbw⟩
      case measure => simp [intOf]; omega
    · have e : l.take k = l := List.take_of_length_le (by omega)
      rw [e] at hraw ⊢
      have Hs := Lib.hid (show O.size l = O.raw l + O.pad (O.raw l) from rfl)
      have hp := O.pad_le (O.raw l)
      clear e
      go_wp2_with fail
      refine (padding_any (O.raw l) _ (by omega)).mono ?_
      rintro e w2 ⟨rfl, rfl⟩
      generalize O.pad (O.raw l) = p at *
      generalize O.raw l = n at *
      go_wp2
      go_ret
      exact ⟨ret_i64 (by rw [Hs.out]; omega), hb⟩

theorem pad_more (n j : Nat) (h : j < O.pad n) : ((n : Int) + (j : Int)) % 4 ≠ 0 := by unfold O.pad at h; omega
theorem pad_done (n j : Nat) (h : j ≤ O.pad n) (h' : ¬ j < O.pad n) : ((n : Int) + (j : Int)) % 4 = 0 := by unfold O.pad at h h'; omega

theorem great_true (l : List Opt) (k : Nat) (h : k < l.length) (hb : 100 < (l.getD k noOpt).data.size) : O.great l = true := by
  unfold O.great
  rw [Bool.or_eq_true]
  exact .inl (List.any_eq_true.2 ⟨_, getD_mem l k h, by simpa using hb⟩)

theorem great_rest (l : List Opt) (h : ∀ o ∈ l, o.data.size ≤ 100) : O.great l = decide (60 < l.length) := by
  unfold O.great
  have : l.any (fun o => 100 < o.data.size) = false := by
    rw [List.any_eq_false]
    intro o ho
    have := h o ho
    simp; omega
  rw [this, Bool.false_or]

theorem great_not (l : List Opt) (h : O.great l = false) : l.length ≤ 60 ∧ ∀ o ∈ l, o.data.size ≤ 100 := by
  unfold O.great at h
  rw [Bool.or_eq_false_iff] at h
  refine ⟨by have := of_decide_eq_false h.2; omega, fun o ho => ?_⟩
  have := List.any_eq_false.1 h.1 o ho
  simp at this
  omega

theorem small_take (l : List Opt) (k : Nat) (h : k < l.length) (ha : ∀ o ∈ l.take k, o.data.size ≤ 100) (hb : (l.getD k noOpt).data.size ≤ 100) : ∀ o ∈ l.take (k + 1), o.data.size ≤ 100 := by
  intro o ho
  rw [getD_take l k h, List.mem_append] at ho
  rcases ho with ho | ho
  · exact ha o ho
  · rw [List.mem_singleton.1 ho]; exact hb

set_option maxHeartbeats 400000 in
theorem great_any (a : Option Addr) (cap : Nat) (l : List Opt) (w : World) (h : OptRow w a l) (hl : l.length ≤ maxLen) (hd : ∀ o ∈ l, o.data.size ≤ maxLen) :
    Calls Tryd.prog 13 #[.slice a l.length cap] w fun e w' => e = .returned (.bool (O.great l)) ∧ w = w' := by
  unfold maxLen at hl
  have Hrow := Lib.hid h
  have Hd := Lib.hid hd
  clear h hd
  obtain ⟨r, hr⟩ : ∃ r, O.great l = r := ⟨_, rfl⟩
  have Hr := Lib.hid hr
  rw [hr]
  clear hr
  go_enter Tryd.func13, Tryd.ntmps13
  go_wp2
  go_loop [3] (fun i => ∃ k : Nat, k ≤ l.length ∧ i = .int .i64 k ∧ Hid (∀ o ∈ l.take k, o.data.size ≤ 100)) (fun i => l.length - (intOf i).toNat)
  case atStart => exact ⟨0, Nat.zero_le _, rfl, Lib.hid (by simp)⟩
  case round =>
    obtain ⟨k, hk, rfl, Ha⟩ := hrel
    by_cases hlt : k < l.length
    · obtain ⟨b, off, rfl, hbl, c0, c1⟩ := Hrow.out.then (Below.refl _ _) k hlt
      have hz := Hd.out _ (getD_mem l k hlt)
      have Hq := Lib.hid (small_take l k hlt Ha.out)
      have Hf := Lib.hid (great_true l k hlt)
      generalize l.getD k noOpt = o at *
      obtain ⟨kd, d⟩ := o
      simp only at c0 c1 hz
      unfold maxLen at hz
      by_cases hb : 100 < d.size
      · go_wp2
        go_ret
        exact ⟨ret_bool (by rw [← Hr.out, Hf.out hb]), rfl⟩
      · go_wp2
        go_round
        case rel => exact ⟨k + 1, by omega, by go_num, Lib.hid (Hq.out (by show d.size ≤ 100; omega))⟩
        case measure => simp [intOf]; omega
    · have e : l.take k = l := List.take_of_length_le (by omega)
      rw [e] at Ha
      clear e
      have Hg := Lib.hid (great_rest l Ha.out)
      go_wp2
      go_ret
      exact ⟨ret_bool (by rw [← Hr.out, Hg.out, decide_eq_decide]; omega), rfl⟩
#print axioms optRight_any
#print axioms great_any
end Go.Proofs.YtncnildpbccpaaaDoor
