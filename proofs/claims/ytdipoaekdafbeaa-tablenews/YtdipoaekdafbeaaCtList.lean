/- The walks of what lists a set. -/
import Derived.Test.YtdipoaekdafbeaaCtBuf
namespace Go.Proofs.Ytdipoaekdafbeaa
open Go.RowKit
set_option maxRecDepth 100000
set_option linter.unusedVariables false

namespace C
/-- The categories below k. -/
def listTo (n k : Nat) : List Int := ((List.range k).filter (hasN n)).map fun (j : Nat) => (j : Int)
def list (n : Nat) : List Int := listTo n 240
theorem listTo_succ (n k : Nat) : listTo n (k + 1) = listTo n k ++ (if hasN n k then [(k : Int)] else []) := by
  unfold listTo
  rw [List.range_succ, List.filter_append, List.map_append]
  cases h : hasN n k <;> simp [h]
theorem listV_succ (n k : Nat) : intsV (listTo n (k + 1)) = intsV (listTo n k) ++ (if hasN n k then [.int .i64 (k : Int)] else []) := by
  rw [listTo_succ]
  unfold intsV
  rw [List.map_append]
  cases hasN n k <;> rfl
theorem listTo_len (n : Nat) : ∀ k, (intsV (listTo n k)).length ≤ k
  | 0 => by simp [listTo, intsV]
  | k + 1 => by
    have := listTo_len n k
    rw [listV_succ, List.length_append]
    cases h : hasN n k <;> simp at * <;> omega
end C

/-- A row of another type than a set's lies elsewhere. -/
theorem VBuf.away {e : TypeId} {base : Nat} {ao : Option Addr} {cap : Nat} {vs : List Value} {w : World} {g n : Nat} (h : VBuf e base ao cap vs w) (hs : SetAt w g n) (hne : e ≠ 27) : some g ≠ Value.ownBlock (.slice ao vs.length cap) := fun he => by
  rcases h.2 with ⟨hv, hn⟩ | ⟨g', cap', cur, hv, hbg, hg, _⟩
  · rw [hv] at he
    simp [Value.ownBlock] at he
  · rw [hv] at he
    have : g = g' := by simpa [Value.ownBlock] using he
    subst this
    unfold SetAt at hs
    rw [hs] at hg
    injection hg with hg
    injection hg with _ ht
    exact hne ht.symm

set_option maxHeartbeats 4000000 in
theorem List_any (n : Nat) (w : World) :
    Calls Try.prog 54 #[.agg (C.cv n)] w fun e w' => ∃ ao cp, e = .returned (.slice ao (C.list n).length cp) ∧ IRow w' ao (C.list n) ∧ Below w.heap.size w w' := by
  have H0 := Lib.hid (SetAt.new w n)
  go_enter Try.func54, Try.ntmps54
  go_wp2
  go_loopw [3, 5] (fun s i wr => ∃ (k : Nat) (ao : Option Addr) (cp : Nat), k ≤ 240 ∧ i = .int .i64 k ∧ s = .slice ao (intsV (C.listTo n k)).length cp ∧ VBuf 3 w.heap.size ao cp (intsV (C.listTo n k)) wr ∧ SetAt wr w.heap.size n ∧ Below w.heap.size w wr) (fun _ i _ => 240 - (intOf i).toNat)
  case atStart => exact ⟨0, none, 0, by omega, rfl, rfl, VBuf.nil _ _ _, H0.out, (Below.refl _ w).alloc (Nat.le_refl _) _⟩
  case round =>
    obtain ⟨k, ao, cp, hk, rfl, rfl, hbuf, hs, hb⟩ := hrel
    have hbs := hb.size
    have hlen := C.listTo_len n k
    by_cases hlt : k < 240
    · have Ht := Lib.hid (C.listV_succ n k)
      have hk' : (k : Int) < 240 := by omega
      generalize hm : intsV (C.listTo n k) = vs at *
      have Hm := Lib.hid hm
      have HS := Lib.hid hs
      have hsl := hs.lt
      clear hm hs H0
      cases hq : C.hasN n k
      · have Hq := Lib.hid hq
        go_wp2_with (refine load_set rfl rfl rfl HS.out ?_)
        refine (Has_in n k _ hlt false hq).mono ?_
        rintro e w2 ⟨rfl, hb2⟩
        have hbw := hb.trans (hb2.mono hbs)
        have hbuf2 := hbuf.carry hb2
        have HS2 := Lib.hid (HS.out.below hb2 hsl)
        clear hb2 hbuf hq hb
        go_wp2
        go_roundw
        case rel => exact ⟨k + 1, ao, cp, by omega, by go_num, by rw [Ht.out, Hq.out]; simp, by rw [Ht.out, Hq.out]; simpa using hbuf2, HS2.out, hbw⟩
        case measure => simp [intOf]; omega
      · have Hq := Lib.hid hq
        go_wp2_with (refine load_set rfl rfl rfl HS.out ?_)
        refine (Has_in n k _ hlt true hq).mono ?_
        rintro e w2 ⟨rfl, hb2⟩
        have hbw := hb.trans (hb2.mono hbs)
        have hbuf2 := hbuf.carry hb2
        have hs2 := HS.out.below hb2 hsl
        have hz2 := hs2.lt
        have hb2s := hb2.size
        obtain ⟨ao', cp', w3, hrun, hbuf3, hg⟩ := append_one 3 56 _ _ Try.underlying56 Try.info_int rfl (by omega) w.heap.size ao cp vs (w2.alloc (.cells #[.int .i64 k] 3)) (hbuf2.alloc _) (.int .i64 k) rfl w2.heap.size (by simp) 56 (by omega) (by simp; omega)
        have hb3 : Below w.heap.size w w3 := (hbw.alloc (by omega) _).grown hg (by simp; omega) hbuf2.own
        have HS3 : Hid (SetAt w3 w.heap.size n) := Lib.hid ((hg.block w.heap.size (by simp; omega) (hbuf2.away hs2 (by decide))).trans (hs2.alloc _))
        have Hrun := Lib.hid hrun
        clear hb2 hbuf hq hb hbw hbuf2 hs2 hz2 hg hrun hb2s
        go_wp2_with (at_builtin; refine listAppend rfl _ _ _ _ rfl _ _ rfl rfl _ _ Hrun.out ?_)
        go_roundw
        case rel => exact ⟨k + 1, ao', cp', by omega, by go_num, by rw [Ht.out, Hq.out]; simp, by rw [Ht.out, Hq.out]; simpa using hbuf3, HS3.out, hb3⟩
        case measure => simp [intOf]; omega
    · obtain rfl : k = 240 := by omega
      have hrow := IRow.of_buf (l := C.listTo n 240) hbuf
      have hl : (intsV (C.listTo n 240)).length = (C.listTo n 240).length := List.length_map _
      rw [hl]
      have HR := Lib.hid hrow
      clear hrow hbuf hs H0 hl
      go_wp2
      go_ret
      exact ⟨ao, cp, rfl, HR.out, hb⟩

#print axioms List_any
end Go.Proofs.Ytdipoaekdafbeaa
