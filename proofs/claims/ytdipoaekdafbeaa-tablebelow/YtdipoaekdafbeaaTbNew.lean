/- A table made of labels; how many can be there, by going through them. -/
import Derived.Test.YtdipoaekdafbeaaTbAdd
namespace Go.Proofs.Ytdipoaekdafbeaa
open Go.RowKit Go.Maps Go.ChangeMaps
set_option maxRecDepth 100000
set_option linter.unusedVariables false
open T

theorem run_op_load_mid {o : Oper} {ev : Operand → Value} {w : World} {x : Operand} {b off n : Nat} {z : Int} (ho : o.op = .load 29 x) (hx : ev x = .pointer (some ⟨b, off, none⟩)) (h : w.rangeAt b off (L.lv z n).toList) : (execOp ev o).run Try.prog w = .ok (.value (.agg (L.lv z n))) w := by
  have hr := run_loadAt_mid (P := Try.prog) w b off 29 _ _ h Try.underlying29 rfl (by rw [Array.length_toList, L.lv_size]; exact Try.info_lab)
  rw [Array.toArray_toList] at hr
  unfold execOp
  simp only [ho, hx, Sem.run_bind, hr, Result.andThen_ok, Sem.run_pure]
theorem labs_row {W : World} {a : Option Addr} {l : Labs} (h : LRow W a l) (k : Nat) (hk : k < l.length) : ∃ b off, a = some ⟨b, off, none⟩ ∧ b < W.heap.size ∧ ∀ k, k < l.length → ∀ wr, Below W.heap.size W wr → wr.rangeAt b (off + k * 31) (L.lv (lab l k).1 (lab l k).2).toList := by
  obtain ⟨b, off, ha, hb, hr⟩ := h (by omega)
  exact ⟨b, off, ha, hb, fun k hk wr hbl j v hv => (hbl.cell (p := ⟨b, off + k * 31 + j, none⟩) hb).trans (hr k hk j v hv)⟩
theorem TabB.cell {base g : Nat} {w : World} {ls : Labs} (h : TabB base w g ls) : ∃ ao cap, w.cell? ⟨g, 0, none⟩ = some (.slice ao ls.length cap) := by
  obtain ⟨ao, cap, m, h1, _⟩ := h
  exact ⟨ao, cap, (cell_of_row w g 0 _ _ (0, 0) h1).trans rfl⟩
theorem TabB.start (w : World) : TabB w.heap.size ((w.alloc (.map #[] 0)).alloc (.cells #[.slice none 0 0, .map (some w.heap.size)] 78)) (w.heap.size + 1) [] := by
  refine ⟨none, 0, w.heap.size, ?_, VLab.nil _ _, (World.ownsMap_made w _ _ _).alloc _, by omega, Nat.le_refl _, fun _ => rfl⟩
  have := heap_alloc_new (w.alloc (.map #[] 0)) (.cells #[.slice none 0 0, .map (some w.heap.size)] 78)
  rw [show (w.alloc (.map #[] 0)).heap.size = w.heap.size + 1 from by simp] at this
  exact this

set_option maxHeartbeats 8000000 in
theorem New_good (a : Option Addr) (cap : Nat) (l : Labs) (w : World) (h : LRow w a l) (hl : l.length ≤ 1000) (hok : ∀ p ∈ l, ok p) (hu : upTo l l.length) :
    Calls Try.prog 20 #[.slice a l.length cap] w fun e w' => ∃ g, e = .returned (.tuple #[.pointer (some ⟨g, 0, none⟩), .int .i64 l.length, .int .i64 0]) ∧ TabB w.heap.size w' g l ∧ Below w.heap.size w w' := by
  have Hrow := Lib.hid h
  have Hok := Lib.hid hok
  have Hu := Lib.hid hu
  have hmm := @run_makeMap Try.prog
  have HS := Lib.hid (TabB.start w)
  have hb0 : Below w.heap.size w ((w.alloc (.map #[] 0)).alloc (.cells #[.slice none 0 0, .map (some w.heap.size)] 78)) := ((Below.refl _ w).alloc (Nat.le_refl _) _).alloc (by simp) _
  clear h hok hu
  go_enter Try.func20, Try.ntmps20
  go_wp2
  go_loopw [14] (fun i wr => ∃ k : Nat, k ≤ l.length ∧ i = .int .i64 k ∧ TabB w.heap.size wr (w.heap.size + 1) (l.take k) ∧ Below w.heap.size w wr) (fun i _ => l.length - (intOf i).toNat)
  case atStart => exact ⟨0, Nat.zero_le _, rfl, by simpa using HS.out, hb0⟩
  case round =>
    obtain ⟨k, hk, rfl, htab, hb⟩ := hrel
    have hbs := hb.size
    have HTb := Lib.hid htab
    clear htab hmm hb0
    by_cases hlt : k < l.length
    · obtain ⟨b, off, rfl, hbl, hr⟩ := Hrow.out.then hb k hlt
      have hp : ok (lab l k) := Hok.out _ (lab_mem l k hlt)
      have Ht := Lib.hid (take_lab l k hlt)
      have hlt' : (k : Int) < (l.length : Int) := by omega
      have HRo := Lib.hid hr
      have HN := Lib.hid (LabAt.new wr 0 0)
      have hbn : Below wr.heap.size wr (wr.alloc (.cells (L.lv 0 0) 29)) := (Below.refl _ _).alloc (Nat.le_refl _) _
      have HA := Lib.hid (fun w' (h : TabB w.heap.size w' (w.heap.size + 1) (l.take k)) (hb : w.heap.size ≤ w'.heap.size) => add_any w.heap.size (w.heap.size + 1) (l.take k) (lab l k).1 (lab l k).2 w' h (fun p hp => Hok.out p (List.mem_of_mem_take hp)) (upTo_nodup k (fun j hj => Hu.out j (by omega)) (by omega)) (by rw [List.length_take]; have := upTo_le (l := l) (k := k) (fun j hj => Hu.out j (by omega)) (by omega); omega) hp hb)
      clear hr hp
      change Hid (wr.rangeAt b (off + k * 31) (L.lv (lab l k).1 (lab l k).2).toList) at HRo
      have HZ := Lib.hid (Hu.out k hlt)
      have HT2 : Hid (l.take (k + 1) = l.take k ++ [((lab l k).1, (lab l k).2)]) := Ht
      have HZ : Hid (addE (l.take k) ((lab l k).1, (lab l k).2) = 0) := HZ
      rw [HZ.out] at HA
      generalize (lab l k).1 = z at *
      generalize (lab l k).2 = n at *
      clear Ht HZ
      go_wp2_with (first | (refine load_mid_lab rfl rfl rfl HRo.out ?_) | (rw [L.zero31]; refine store_lab rfl rfl rfl rfl HN.out ?_; intro w2 hs ho; have HL2 := Lib.hid hs; have hb2 := hbn.trans (ho.below (Nat.le_refl _)); have HT := Lib.hid (HTb.out.below hb2); clear hs ho) | (refine load_lab rfl rfl rfl HL2.out ?_))
      have hbw2 := hb.trans (hb2.mono hbs)
      refine (HA.out w2 HT.out hbw2.size).mono ?_
      rintro e w3 ⟨rfl, hb3, ht3⟩
      have HT3 := Lib.hid (ht3 (by first | rfl | trivial))
      have hbw3 : Below w.heap.size w w3 := hbw2.trans hb3
      clear ht3 hb3 HA HT HL2 hb2 HRo HN hbn
      go_wp2
      go_roundw
      case rel => exact ⟨k + 1, by omega, by go_num, by rw [HT2.out]; exact HT3.out, hbw3⟩
      case measure => simp [intOf]; omega
    · obtain rfl : k = l.length := by omega
      rw [List.take_length] at HTb
      obtain ⟨ao, cp, k0⟩ := HTb.out.cell
      have hlt' : ¬ (l.length : Int) < (l.length : Int) := by omega
      go_wp2_with fail
      refine (Len_any (w.heap.size + 1) l.length cp ao wr k0).mono ?_
      rintro e w2 ⟨rfl, hw2⟩
      have hw3 := hw2.symm
      clear hw2
      subst hw3
      go_wp2
      go_ret3
      exact ⟨_, rfl, HTb.out, hb⟩

set_option maxHeartbeats 8000000 in
theorem New_bad (a : Option Addr) (cap : Nat) (l : Labs) (w : World) (h : LRow w a l) (hl : l.length ≤ 1000) (hok : ∀ p ∈ l, ok p) (m : Nat) (hm : m < l.length) (hu : upTo l m) (he : addE (l.take m) (lab l m) ≠ 0) :
    Calls Try.prog 20 #[.slice a l.length cap] w fun e w' => e = .returned (.tuple #[.pointer none, .int .i64 m, .int .i64 (addE (l.take m) (lab l m))]) ∧ Below w.heap.size w w' := by
  have Hrow := Lib.hid h
  have Hok := Lib.hid hok
  have Hu := Lib.hid hu
  have hmm := @run_makeMap Try.prog
  have HS := Lib.hid (TabB.start w)
  have hb0 : Below w.heap.size w ((w.alloc (.map #[] 0)).alloc (.cells #[.slice none 0 0, .map (some w.heap.size)] 78)) := ((Below.refl _ w).alloc (Nat.le_refl _) _).alloc (by simp) _
  clear h hok hu
  obtain ⟨E, hE⟩ : ∃ E, addE (l.take m) (lab l m) = E := ⟨_, rfl⟩
  rw [hE] at he
  rw [hE]
  have He := Lib.hid he
  have HEq := Lib.hid hE
  clear he hE
  go_enter Try.func20, Try.ntmps20
  go_wp2
  go_loopw [14] (fun i wr => ∃ k : Nat, k ≤ m ∧ i = .int .i64 k ∧ TabB w.heap.size wr (w.heap.size + 1) (l.take k) ∧ Below w.heap.size w wr) (fun i _ => l.length - (intOf i).toNat)
  case atStart => exact ⟨0, Nat.zero_le _, rfl, by simpa using HS.out, hb0⟩
  case round =>
    obtain ⟨k, hk, rfl, htab, hb⟩ := hrel
    have hbs := hb.size
    have HTb := Lib.hid htab
    clear htab hmm hb0
    have hlt : k < l.length := by omega
    have hkk : k ≤ m := hk
    obtain ⟨b, off, rfl, hbl, hr⟩ := Hrow.out.then hb k hlt
    have hp : ok (lab l k) := Hok.out _ (lab_mem l k hlt)
    have Ht := Lib.hid (take_lab l k hlt)
    have hlt' : (k : Int) < (l.length : Int) := by omega
    have HRo := Lib.hid hr
    have HN := Lib.hid (LabAt.new wr 0 0)
    have hbn : Below wr.heap.size wr (wr.alloc (.cells (L.lv 0 0) 29)) := (Below.refl _ _).alloc (Nat.le_refl _) _
    have HA := Lib.hid (fun w' (h : TabB w.heap.size w' (w.heap.size + 1) (l.take k)) (hb : w.heap.size ≤ w'.heap.size) => add_any w.heap.size (w.heap.size + 1) (l.take k) (lab l k).1 (lab l k).2 w' h (fun p hp => Hok.out p (List.mem_of_mem_take hp)) (upTo_nodup k (fun j hj => Hu.out j (by omega)) (by omega)) (by rw [List.length_take]; have := upTo_le (l := l) (k := k) (fun j hj => Hu.out j (by omega)) (by omega); omega) hp hb)
    clear hr hp
    change Hid (wr.rangeAt b (off + k * 31) (L.lv (lab l k).1 (lab l k).2).toList) at HRo
    by_cases hkm : k < m
    · have HZ := Lib.hid (Hu.out k hkm)
      have HT2 : Hid (l.take (k + 1) = l.take k ++ [((lab l k).1, (lab l k).2)]) := Ht
      have HZ : Hid (addE (l.take k) ((lab l k).1, (lab l k).2) = 0) := HZ
      rw [HZ.out] at HA
      generalize (lab l k).1 = z at *
      generalize (lab l k).2 = n at *
      clear Ht HZ
      go_wp2_with (first | (refine load_mid_lab rfl rfl rfl HRo.out ?_) | (rw [L.zero31]; refine store_lab rfl rfl rfl rfl HN.out ?_; intro w2 hs ho; have HL2 := Lib.hid hs; have hb2 := hbn.trans (ho.below (Nat.le_refl _)); have HT := Lib.hid (HTb.out.below hb2); clear hs ho) | (refine load_lab rfl rfl rfl HL2.out ?_))
      have hbw2 := hb.trans (hb2.mono hbs)
      refine (HA.out w2 HT.out hbw2.size).mono ?_
      rintro e w3 ⟨rfl, hb3, ht3⟩
      have HT3 := Lib.hid (ht3 (by first | rfl | trivial))
      have hbw3 : Below w.heap.size w w3 := hbw2.trans hb3
      clear ht3 hb3 HA HT HL2 hb2 HRo HN hbn
      go_wp2
      go_roundw
      case rel => exact ⟨k + 1, by omega, by go_num, by rw [HT2.out]; exact HT3.out, hbw3⟩
      case measure => simp [intOf]; omega
    · obtain rfl : k = m := by omega
      have HE : Hid (addE (l.take k) ((lab l k).1, (lab l k).2) = E) := HEq
      rw [HE.out] at HA
      have hne : (E != 0) = true := by simpa using He.out
      clear HE HEq He Ht
      generalize (lab l k).1 = z at *
      generalize (lab l k).2 = n at *
      go_wp2_with (first | (refine load_mid_lab rfl rfl rfl HRo.out ?_) | (rw [L.zero31]; refine store_lab rfl rfl rfl rfl HN.out ?_; intro w2 hs ho; have HL2 := Lib.hid hs; have hb2 := hbn.trans (ho.below (Nat.le_refl _)); have HT := Lib.hid (HTb.out.below hb2); clear hs ho) | (refine load_lab rfl rfl rfl HL2.out ?_))
      have hbw2 := hb.trans (hb2.mono hbs)
      refine (HA.out w2 HT.out hbw2.size).mono ?_
      rintro e w3 ⟨rfl, hb3, _⟩
      have hbw3 : Below w.heap.size w w3 := hbw2.trans hb3
      clear hb3 HA HT HL2 hb2 HRo HN hbn
      go_wp2
      go_ret3
      exact ⟨rfl, hbw3⟩
#print axioms New_good
#print axioms New_bad
end Go.Proofs.Ytdipoaekdafbeaa
