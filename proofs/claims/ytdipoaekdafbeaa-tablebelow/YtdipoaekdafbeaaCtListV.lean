/- The walk of what lists a set's categories, with where the list lies. -/
import Derived.Test.YtdipoaekdafbeaaCtList
import Derived.Test.YtdipoaekdafbeaaCtPut
namespace Go.Proofs.Ytdipoaekdafbeaa
open Go.RowKit
set_option maxRecDepth 100000
set_option linter.unusedVariables false

set_option maxHeartbeats 4000000 in
theorem List_vbuf (n : Nat) (w : World) :
    Calls Try.prog 54 #[.agg (C.cv n)] w fun e w' => ∃ ao cp, e = .returned (.slice ao (C.list n).length cp) ∧ VBuf 3 w.heap.size ao cp (intsV (C.list n)) w' ∧ Below w.heap.size w w' := by
  have H0 := Lib.hid (SetAt.new w n)
  go_enter Try.func54, Try.ntmps54
  go_wp2
  go_loopw [3, 5] (fun s i wr => ∃ (k : Nat) (ao : Option Addr) (cp : Nat), k ≤ 240 ∧ i = .int .i64 k ∧ s = .slice ao (intsV (C.listTo n k)).length cp ∧ VBuf 3 w.heap.size ao cp (intsV (C.listTo n k)) wr ∧ SetAt wr w.heap.size n ∧ Below w.heap.size w wr) (fun _ i _ => 240 - (intOf i).toNat)
  case atStart => exact ⟨0, none, 0, by omega, rfl, rfl, VBuf.nil _ _ _, H0.out, (Below.refl _ w).alloc (Nat.le_refl _) _⟩
  case round =>
    obtain ⟨k, ao, cp, hk, rfl, rfl, hbuf, hs, hb⟩ := hrel
    have hbs := hb.size
    have hlen := C.listTo_len n k
    by_cases hlt : k < 240
    · have Ht := Lib.hid (C.listV_succ n k)
      have hk' : (k : Int) < 240 := by omega
      generalize hm : intsV (C.listTo n k) = vs at *
      have Hm := Lib.hid hm
      have HS := Lib.hid hs
      have hsl := hs.lt
      clear hm hs H0
      cases hq : C.hasN n k
      · have Hq := Lib.hid hq
        go_wp2_with (refine load_set rfl rfl rfl HS.out ?_)
        refine (Has_in n k _ hlt false hq).mono ?_
        rintro e w2 ⟨rfl, hb2⟩
        have hbw := hb.trans (hb2.mono hbs)
        have hbuf2 := hbuf.carry hb2
        have HS2 := Lib.hid (HS.out.below hb2 hsl)
        clear hb2 hbuf hq hb
        go_wp2
        go_roundw
        case rel => exact ⟨k + 1, ao, cp, by omega, by go_num, by rw [Ht.out, Hq.out]; simp, by rw [Ht.out, Hq.out]; simpa using hbuf2, HS2.out, hbw⟩
        case measure => simp [intOf]; omega
      · have Hq := Lib.hid hq
        go_wp2_with (refine load_set rfl rfl rfl HS.out ?_)
        refine (Has_in n k _ hlt true hq).mono ?_
        rintro e w2 ⟨rfl, hb2⟩
        have hbw := hb.trans (hb2.mono hbs)
        have hbuf2 := hbuf.carry hb2
        have hs2 := HS.out.below hb2 hsl
        have hz2 := hs2.lt
        have hb2s := hb2.size
        obtain ⟨ao', cp', w3, hrun, hbuf3, hg⟩ := append_one 3 56 _ _ Try.underlying56 Try.info_int rfl (by omega) w.heap.size ao cp vs (w2.alloc (.cells #[.int .i64 k] 3)) (hbuf2.alloc _) (.int .i64 k) rfl w2.heap.size (by simp) 56 (by omega) (by simp; omega)
        have hb3 : Below w.heap.size w w3 := (hbw.alloc (by omega) _).grown hg (by simp; omega) hbuf2.own
        have HS3 : Hid (SetAt w3 w.heap.size n) := Lib.hid ((hg.block w.heap.size (by simp; omega) (hbuf2.away hs2 (by decide))).trans (hs2.alloc _))
        have Hrun := Lib.hid hrun
        clear hb2 hbuf hq hb hbw hbuf2 hs2 hz2 hg hrun hb2s
        go_wp2_with (at_builtin; refine listAppend rfl _ _ _ _ rfl _ _ rfl rfl _ _ Hrun.out ?_)
        go_roundw
        case rel => exact ⟨k + 1, ao', cp', by omega, by go_num, by rw [Ht.out, Hq.out]; simp, by rw [Ht.out, Hq.out]; simpa using hbuf3, HS3.out, hb3⟩
        case measure => simp [intOf]; omega
    · obtain rfl : k = 240 := by omega
      have hl : (intsV (C.listTo n 240)).length = (C.listTo n 240).length := List.length_map _
      rw [hl]
      have HR := Lib.hid hbuf
      clear hbuf hs H0 hl
      go_wp2
      go_ret
      exact ⟨ao, cp, rfl, HR.out, hb⟩

#print axioms List_vbuf
end Go.Proofs.Ytdipoaekdafbeaa
