/- The law of all that is written: its walk. -/
import Derived.Test.YtcnojafpkkfabaaWritesLib
namespace Go.Proofs.Ytcnojafpkkfabaa
open Go.RowKit

set_option maxHeartbeats 8000000 in
set_option maxRecDepth 100000 in
theorem writes_short (a : Option Addr) (len cap : Nat) (ks ns : Nat → Int) (ss : Nat → ByteArray) (w : World) (hl : len ≤ 60) (hrow : PutRow w a len ks ns ss) :
    Calls Try.prog 4 #[.slice a len cap] w fun e w' => e = .returned (.bool true) ∧ Below w.heap.size w w' := by
  have Hrow := Lib.hid hrow
  clear hrow
  go_enter Try.func4, Try.ntmps4
  go_wp2_with fail
  refine (awake_any _).mono ?_
  rintro e w0 ⟨rfl, hb0⟩
  go_wp2
  have z0 := hb0.size
  have hw0 := Wr.new w0
  have k0 : Below w.heap.size w (w0.alloc (.cells #[.bool false, .slice none 0 0] 41)) := hb0.alloc z0 _
  clear hb0
  generalize w0.alloc (.cells #[.bool false, .slice none 0 0] 41) = W0 at *
  generalize w0.heap.size = B at *
  go_loopw [4, 5, 6] (fun want bad i wr => ∃ (k : Nat) (wt : ByteArray) (b : Bool), k ≤ len ∧ wt.size ≤ 100 * k ∧ i = .int .i64 k ∧ want = .string wt ∧ bad = .bool b ∧ After B B (st b wt.data.toList) wr ∧ Below w.heap.size w wr) (fun _ _ i _ => len - (intOf i).toNat)
  case atStart => exact ⟨0, ⟨#[]⟩, false, Nat.zero_le _, by decide, rfl, rfl, rfl, wr_st hw0 (by simp), k0⟩
  case round =>
    clear hw0 k0
    obtain ⟨k, wt, b, hk, hwt, rfl, rfl, rfl, haf, hb⟩ := hrel
    by_cases hlt : k < len
    · rcases Hrow.out with h0 | ⟨bl, off, rfl, hbl, _, hc⟩
      · omega
      · obtain ⟨hc0, hc1, hc2, hc3⟩ := hc k hlt
        have hd0 : wr.cell? ⟨bl, off + k * 3, none⟩ = some (.int .i64 (ks k)) := by rw [hb.cell (p := ⟨bl, off + k * 3, none⟩) hbl]; exact hc0
        have hd1 : wr.cell? ⟨bl, off + k * 3 + 1, none⟩ = some (.int .i64 (ns k)) := by rw [hb.cell (p := ⟨bl, off + k * 3 + 1, none⟩) hbl]; exact hc1
        have hd2 : wr.cell? ⟨bl, off + k * 3 + 2, none⟩ = some (.string (ss k)) := by rw [hb.cell (p := ⟨bl, off + k * 3 + 2, none⟩) hbl]; exact hc2
        clear hc hc0 hc1
        unfold maxLen at hc3
        generalize ks k = kd at *
        generalize ns k = N at *
        generalize ss k = S at *
        by_cases hS : 100 < S.size
        · go_wp2
          go_ret
          exact ⟨rfl, hb⟩
        · by_cases h0 : kd = 0
          · subst h0
            obtain ⟨n', hn', hlt'⟩ : ∃ n' : Nat, N % 4294967296 = (n' : Int) ∧ n' < 4294967296 := ⟨(N % 4294967296).toNat, by omega, by omega⟩
            have Hn' := Lib.hid hn'
            clear hn'
            cases b
            · by_cases hneg : N < 0
              · go_wp2_with fail
                refine (wByte_out B _ N wr haf (by rw [list_size]; omega) (by omega) _ rfl (wt.data.toList ++ be1 n')).mono ?_
                rintro e w3 ⟨rfl, ha3, hb3⟩
                have z3 := hb3.size
                go_wp2_with fail
                rw [Hn'.out]
                refine (refbytes_1 n' _ (by omega)).mono ?_
                rintro e w4 ⟨rfl, hb4⟩
                have ha4 := after_carry ha3 hb4
                have k4 : Below w.heap.size w w4 := (hb.trans (hb3.mono z0)).trans (hb4.mono (by have := hb.size; omega))
                clear ha3 hb3 hb4
                obtain ⟨t, ht⟩ : ∃ t : ByteArray, t = ⟨(be1 n').toArray⟩ := ⟨_, rfl⟩
                have htl : t.size = 1 := by rw [ht]; rfl
                have ha5 : After B B (st true (wt ++ t).data.toList) w4 := by rw [app_list, ht]; exact ha4
                rw [← ht]
                have htl2 : t.size ≤ 4 := by omega
                have Htl := Lib.hid htl
                clear ht ha4 htl
                go_wp2
                go_roundw
                case rel => exact ⟨k + 1, wt ++ t, true, by omega, by rw [ByteArray.size_append]; omega, by go_num, rfl, (by first | rfl | (simp; done) | (simp; omega)), ha5, k4⟩
                case measure => simp [intOf]; omega
              · obtain ⟨n, rfl⟩ := Int.eq_ofNat_of_zero_le (show 0 ≤ N by omega)
                by_cases hin : n ≤ 255
                · go_wp2_with fail
                  refine (wByte_in B _ n wr haf (by rw [list_size]; omega) hin _ rfl).mono ?_
                  rintro e w3 ⟨rfl, ha3, hb3⟩
                  have z3 := hb3.size
                  go_wp2_with fail
                  refine (refbytes_1 n _ (by omega)).mono ?_
                  rintro e w4 ⟨rfl, hb4⟩
                  have ha4 := after_carry ha3 hb4
                  have k4 : Below w.heap.size w w4 := (hb.trans (hb3.mono z0)).trans (hb4.mono (by have := hb.size; omega))
                  clear ha3 hb3 hb4
                  obtain ⟨t, ht⟩ : ∃ t : ByteArray, t = ⟨(be1 n).toArray⟩ := ⟨_, rfl⟩
                  have htl : t.size = 1 := by rw [ht]; rfl
                  have ha5 : After B B (st false (wt ++ t).data.toList) w4 := by rw [app_list, ht]; exact ha4
                  rw [← ht]
                  have htl2 : t.size ≤ 4 := by omega
                  have Htl := Lib.hid htl
                  clear ht ha4 htl
                  go_wp2
                  go_roundw
                  case rel => exact ⟨k + 1, wt ++ t, false, by omega, by rw [ByteArray.size_append]; omega, by go_num, rfl, (by first | rfl | (simp; done) | (simp; omega)), ha5, k4⟩
                  case measure => simp [intOf]; omega
                · go_wp2_with fail
                  refine (wByte_out B _ n wr haf (by rw [list_size]; omega) (by omega) _ rfl (wt.data.toList ++ be1 n')).mono ?_
                  rintro e w3 ⟨rfl, ha3, hb3⟩
                  have z3 := hb3.size
                  go_wp2_with fail
                  rw [Hn'.out]
                  refine (refbytes_1 n' _ (by omega)).mono ?_
                  rintro e w4 ⟨rfl, hb4⟩
                  have ha4 := after_carry ha3 hb4
                  have k4 : Below w.heap.size w w4 := (hb.trans (hb3.mono z0)).trans (hb4.mono (by have := hb.size; omega))
                  clear ha3 hb3 hb4
                  obtain ⟨t, ht⟩ : ∃ t : ByteArray, t = ⟨(be1 n').toArray⟩ := ⟨_, rfl⟩
                  have htl : t.size = 1 := by rw [ht]; rfl
                  have ha5 : After B B (st true (wt ++ t).data.toList) w4 := by rw [app_list, ht]; exact ha4
                  rw [← ht]
                  have htl2 : t.size ≤ 4 := by omega
                  have Htl := Lib.hid htl
                  clear ht ha4 htl
                  go_wp2
                  go_roundw
                  case rel => exact ⟨k + 1, wt ++ t, true, by omega, by rw [ByteArray.size_append]; omega, by go_num, rfl, (by first | rfl | (simp; done) | (simp; omega)), ha5, k4⟩
                  case measure => simp [intOf]; omega
            · go_wp2_with fail
              refine (wByte_bad B _ (wt.data.toList ++ be1 n') _ wr _ haf).mono ?_
              rintro e w3 ⟨rfl, ha3, hb3⟩
              have z3 := hb3.size
              go_wp2_with fail
              rw [Hn'.out]
              refine (refbytes_1 n' _ (by omega)).mono ?_
              rintro e w4 ⟨rfl, hb4⟩
              have ha4 := after_carry ha3 hb4
              have k4 : Below w.heap.size w w4 := (hb.trans (hb3.mono z0)).trans (hb4.mono (by have := hb.size; omega))
              clear ha3 hb3 hb4
              obtain ⟨t, ht⟩ : ∃ t : ByteArray, t = ⟨(be1 n').toArray⟩ := ⟨_, rfl⟩
              have htl : t.size = 1 := by rw [ht]; rfl
              have ha5 : After B B (st true (wt ++ t).data.toList) w4 := by rw [app_list, ht]; exact ha4
              rw [← ht]
              have htl2 : t.size ≤ 4 := by omega
              have Htl := Lib.hid htl
              clear ht ha4 htl
              go_wp2
              go_roundw
              case rel => exact ⟨k + 1, wt ++ t, true, by omega, by rw [ByteArray.size_append]; omega, by go_num, rfl, (by first | rfl | (simp; done) | (simp; omega)), ha5, k4⟩
              case measure => simp [intOf]; omega
          · by_cases h1 : kd = 1
            · subst h1
              obtain ⟨n', hn', hlt'⟩ : ∃ n' : Nat, N % 4294967296 = (n' : Int) ∧ n' < 4294967296 := ⟨(N % 4294967296).toNat, by omega, by omega⟩
              have Hn' := Lib.hid hn'
              clear hn'
              cases b
              · by_cases hneg : N < 0
                · go_wp2_with fail
                  refine (wShort_out B _ N wr haf (by rw [list_size]; omega) (by omega) _ rfl (wt.data.toList ++ be2 n')).mono ?_
                  rintro e w3 ⟨rfl, ha3, hb3⟩
                  have z3 := hb3.size
                  go_wp2_with fail
                  rw [Hn'.out]
                  refine (refbytes_2 n' _ (by omega)).mono ?_
                  rintro e w4 ⟨rfl, hb4⟩
                  have ha4 := after_carry ha3 hb4
                  have k4 : Below w.heap.size w w4 := (hb.trans (hb3.mono z0)).trans (hb4.mono (by have := hb.size; omega))
                  clear ha3 hb3 hb4
                  obtain ⟨t, ht⟩ : ∃ t : ByteArray, t = ⟨(be2 n').toArray⟩ := ⟨_, rfl⟩
                  have htl : t.size = 2 := by rw [ht]; rfl
                  have ha5 : After B B (st true (wt ++ t).data.toList) w4 := by rw [app_list, ht]; exact ha4
                  rw [← ht]
                  have htl2 : t.size ≤ 4 := by omega
                  have Htl := Lib.hid htl
                  clear ht ha4 htl
                  go_wp2
                  go_roundw
                  case rel => exact ⟨k + 1, wt ++ t, true, by omega, by rw [ByteArray.size_append]; omega, by go_num, rfl, (by first | rfl | (simp; done) | (simp; omega)), ha5, k4⟩
                  case measure => simp [intOf]; omega
                · obtain ⟨n, rfl⟩ := Int.eq_ofNat_of_zero_le (show 0 ≤ N by omega)
                  by_cases hin : n ≤ 65535
                  · go_wp2_with fail
                    refine (wShort_in B _ n wr haf (by rw [list_size]; omega) hin _ rfl).mono ?_
                    rintro e w3 ⟨rfl, ha3, hb3⟩
                    have z3 := hb3.size
                    go_wp2_with fail
                    refine (refbytes_2 n _ (by omega)).mono ?_
                    rintro e w4 ⟨rfl, hb4⟩
                    have ha4 := after_carry ha3 hb4
                    have k4 : Below w.heap.size w w4 := (hb.trans (hb3.mono z0)).trans (hb4.mono (by have := hb.size; omega))
                    clear ha3 hb3 hb4
                    obtain ⟨t, ht⟩ : ∃ t : ByteArray, t = ⟨(be2 n).toArray⟩ := ⟨_, rfl⟩
                    have htl : t.size = 2 := by rw [ht]; rfl
                    have ha5 : After B B (st false (wt ++ t).data.toList) w4 := by rw [app_list, ht]; exact ha4
                    rw [← ht]
                    have htl2 : t.size ≤ 4 := by omega
                    have Htl := Lib.hid htl
                    clear ht ha4 htl
                    go_wp2
                    go_roundw
                    case rel => exact ⟨k + 1, wt ++ t, false, by omega, by rw [ByteArray.size_append]; omega, by go_num, rfl, (by first | rfl | (simp; done) | (simp; omega)), ha5, k4⟩
                    case measure => simp [intOf]; omega
                  · go_wp2_with fail
                    refine (wShort_out B _ n wr haf (by rw [list_size]; omega) (by omega) _ rfl (wt.data.toList ++ be2 n')).mono ?_
                    rintro e w3 ⟨rfl, ha3, hb3⟩
                    have z3 := hb3.size
                    go_wp2_with fail
                    rw [Hn'.out]
                    refine (refbytes_2 n' _ (by omega)).mono ?_
                    rintro e w4 ⟨rfl, hb4⟩
                    have ha4 := after_carry ha3 hb4
                    have k4 : Below w.heap.size w w4 := (hb.trans (hb3.mono z0)).trans (hb4.mono (by have := hb.size; omega))
                    clear ha3 hb3 hb4
                    obtain ⟨t, ht⟩ : ∃ t : ByteArray, t = ⟨(be2 n').toArray⟩ := ⟨_, rfl⟩
                    have htl : t.size = 2 := by rw [ht]; rfl
                    have ha5 : After B B (st true (wt ++ t).data.toList) w4 := by rw [app_list, ht]; exact ha4
                    rw [← ht]
                    have htl2 : t.size ≤ 4 := by omega
                    have Htl := Lib.hid htl
                    clear ht ha4 htl
                    go_wp2
                    go_roundw
                    case rel => exact ⟨k + 1, wt ++ t, true, by omega, by rw [ByteArray.size_append]; omega, by go_num, rfl, (by first | rfl | (simp; done) | (simp; omega)), ha5, k4⟩
                    case measure => simp [intOf]; omega
              · go_wp2_with fail
                refine (wShort_bad B _ (wt.data.toList ++ be2 n') _ wr _ haf).mono ?_
                rintro e w3 ⟨rfl, ha3, hb3⟩
                have z3 := hb3.size
                go_wp2_with fail
                rw [Hn'.out]
                refine (refbytes_2 n' _ (by omega)).mono ?_
                rintro e w4 ⟨rfl, hb4⟩
                have ha4 := after_carry ha3 hb4
                have k4 : Below w.heap.size w w4 := (hb.trans (hb3.mono z0)).trans (hb4.mono (by have := hb.size; omega))
                clear ha3 hb3 hb4
                obtain ⟨t, ht⟩ : ∃ t : ByteArray, t = ⟨(be2 n').toArray⟩ := ⟨_, rfl⟩
                have htl : t.size = 2 := by rw [ht]; rfl
                have ha5 : After B B (st true (wt ++ t).data.toList) w4 := by rw [app_list, ht]; exact ha4
                rw [← ht]
                have htl2 : t.size ≤ 4 := by omega
                have Htl := Lib.hid htl
                clear ht ha4 htl
                go_wp2
                go_roundw
                case rel => exact ⟨k + 1, wt ++ t, true, by omega, by rw [ByteArray.size_append]; omega, by go_num, rfl, (by first | rfl | (simp; done) | (simp; omega)), ha5, k4⟩
                case measure => simp [intOf]; omega
            · by_cases h2 : kd = 2
              · subst h2
                obtain ⟨n', hn', hlt'⟩ : ∃ n' : Nat, N % 4294967296 = (n' : Int) ∧ n' < 4294967296 := ⟨(N % 4294967296).toNat, by omega, by omega⟩
                have Hn' := Lib.hid hn'
                clear hn'
                cases b
                · go_wp2_with fail
                  rw [Hn'.out]
                  refine (wWord_in B _ n' wr haf (by rw [list_size]; omega) hlt' _ rfl).mono ?_
                  rintro e w3 ⟨rfl, ha3, hb3⟩
                  have z3 := hb3.size
                  go_wp2_with fail
                  rw [Hn'.out]
                  refine (refbytes_4 n' _ (by omega)).mono ?_
                  rintro e w4 ⟨rfl, hb4⟩
                  have ha4 := after_carry ha3 hb4
                  have k4 : Below w.heap.size w w4 := (hb.trans (hb3.mono z0)).trans (hb4.mono (by have := hb.size; omega))
                  clear ha3 hb3 hb4
                  obtain ⟨t, ht⟩ : ∃ t : ByteArray, t = ⟨(word n').toArray⟩ := ⟨_, rfl⟩
                  have htl : t.size = 4 := by rw [ht]; rfl
                  have ha5 : After B B (st false (wt ++ t).data.toList) w4 := by rw [app_list, ht]; exact ha4
                  rw [← ht]
                  have htl2 : t.size ≤ 4 := by omega
                  have Htl := Lib.hid htl
                  clear ht ha4 htl
                  go_wp2
                  go_roundw
                  case rel => exact ⟨k + 1, wt ++ t, false, by omega, by rw [ByteArray.size_append]; omega, by go_num, rfl, (by first | rfl | (simp; done) | (simp; omega)), ha5, k4⟩
                  case measure => simp [intOf]; omega
                · go_wp2_with fail
                  refine (wWord_bad B _ (wt.data.toList ++ word n') _ wr _ haf).mono ?_
                  rintro e w3 ⟨rfl, ha3, hb3⟩
                  have z3 := hb3.size
                  go_wp2_with fail
                  rw [Hn'.out]
                  refine (refbytes_4 n' _ (by omega)).mono ?_
                  rintro e w4 ⟨rfl, hb4⟩
                  have ha4 := after_carry ha3 hb4
                  have k4 : Below w.heap.size w w4 := (hb.trans (hb3.mono z0)).trans (hb4.mono (by have := hb.size; omega))
                  clear ha3 hb3 hb4
                  obtain ⟨t, ht⟩ : ∃ t : ByteArray, t = ⟨(word n').toArray⟩ := ⟨_, rfl⟩
                  have htl : t.size = 4 := by rw [ht]; rfl
                  have ha5 : After B B (st true (wt ++ t).data.toList) w4 := by rw [app_list, ht]; exact ha4
                  rw [← ht]
                  have htl2 : t.size ≤ 4 := by omega
                  have Htl := Lib.hid htl
                  clear ht ha4 htl
                  go_wp2
                  go_roundw
                  case rel => exact ⟨k + 1, wt ++ t, true, by omega, by rw [ByteArray.size_append]; omega, by go_num, rfl, (by first | rfl | (simp; done) | (simp; omega)), ha5, k4⟩
                  case measure => simp [intOf]; omega
              · by_cases h3 : kd = 3
                · subst h3
                  cases b
                  · go_wp2_with fail
                    refine (wText_in B _ S wr haf (by rw [list_size]; omega) (by omega) _ rfl).mono ?_
                    rintro e w3 ⟨rfl, ha3, hb3⟩
                    have z3 := hb3.size
                    have k4 : Below w.heap.size w w3 := hb.trans (hb3.mono z0)
                    have ha5 : After B B (st false (wt ++ S).data.toList) w3 := by rw [app_list]; exact ha3
                    clear ha3 hb3
                    have hd3 : w3.cell? ⟨bl, off + k * 3 + 2, none⟩ = some (.string S) := by rw [k4.cell (p := ⟨bl, off + k * 3 + 2, none⟩) hbl]; exact hc2
                    go_wp2
                    go_roundw
                    case rel => exact ⟨k + 1, wt ++ S, false, by omega, by rw [ByteArray.size_append]; omega, by go_num, rfl, rfl, ha5, k4⟩
                    case measure => simp [intOf]; omega
                  · go_wp2_with fail
                    refine (wText_bad B _ (wt.data.toList ++ S.data.toList) _ wr _ haf).mono ?_
                    rintro e w3 ⟨rfl, ha3, hb3⟩
                    have z3 := hb3.size
                    have k4 : Below w.heap.size w w3 := hb.trans (hb3.mono z0)
                    have ha5 : After B B (st true (wt ++ S).data.toList) w3 := by rw [app_list]; exact ha3
                    clear ha3 hb3
                    have hd3 : w3.cell? ⟨bl, off + k * 3 + 2, none⟩ = some (.string S) := by rw [k4.cell (p := ⟨bl, off + k * 3 + 2, none⟩) hbl]; exact hc2
                    go_wp2
                    go_roundw
                    case rel => exact ⟨k + 1, wt ++ S, true, by omega, by rw [ByteArray.size_append]; omega, by go_num, rfl, rfl, ha5, k4⟩
                    case measure => simp [intOf]; omega
                · have e0 : (kd == 0) = false := beq_eq_false_iff_ne.2 h0
                  have e1 : (kd == 1) = false := beq_eq_false_iff_ne.2 h1
                  have e2 : (kd == 2) = false := beq_eq_false_iff_ne.2 h2
                  have e3 : (kd == 3) = false := beq_eq_false_iff_ne.2 h3
                  clear h0 h1 h2 h3
                  have ha5 : After B B (st b (wt ++ (⟨#[]⟩ : ByteArray)).data.toList) wr := by rw [app_list, show (⟨#[]⟩ : ByteArray).data.toList = [] from rfl, List.append_nil]; exact haf
                  obtain ⟨t, ht⟩ : ∃ t : ByteArray, t = wt ++ (⟨#[]⟩ : ByteArray) := ⟨_, rfl⟩
                  have htz : t.size = wt.size := by rw [ht, ByteArray.size_append]; rfl
                  rw [← ht] at ha5
                  have Ht := Lib.hid ht
                  clear ht
                  go_wp2
                  go_roundw
                  case rel => exact ⟨k + 1, t, b, by omega, by omega, by go_num, by rw [Ht.out], rfl, ha5, hb⟩
                  case measure => simp [intOf]; omega
    · cases b
      · go_wp2_with fail
        refine (Done_any B B _ wr (st_wr haf) (by rw [list_size]; omega)).mono ?_
        rintro e w3 ⟨rfl, rfl⟩
        rw [show (⟨wt.data.toList.toArray⟩ : ByteArray) = wt from rfl]
        go_wp2
        go_ret
        exact ⟨rfl, hb⟩
      · go_wp2_with fail
        refine (Done_bad B B wr (st_bad haf)).mono ?_
        rintro e w3 ⟨rfl, rfl⟩
        go_wp2
        go_ret
        exact ⟨rfl, hb⟩

set_option maxHeartbeats 400000 in
theorem writes_long (a : Option Addr) (len cap : Nat) (w : World) (hl : len ≤ maxLen) (h : 60 < len) :
    Calls Try.prog 4 #[.slice a len cap] w fun e w' => e = .returned (.bool true) ∧ Below w.heap.size w w' := by
  unfold maxLen at hl
  go_enter Try.func4, Try.ntmps4
  go_wp2_with fail
  refine (awake_any _).mono ?_
  rintro e w2 ⟨rfl, hb⟩
  go_wp2
  go_ret
  exact ⟨rfl, hb⟩

theorem writes_all (a : Option Addr) (len cap : Nat) (ks ns : Nat → Int) (ss : Nat → ByteArray) (w : World) (hrow : PutRow w a len ks ns ss) :
    Calls Try.prog 4 #[.slice a len cap] w fun e w' => e = .returned (.bool true) ∧ Below w.heap.size w w' := by
  have hl : len ≤ maxLen := by
    rcases hrow with h0 | ⟨_, _, _, _, h, _⟩
    · subst h0; exact Nat.zero_le _
    · exact h
  by_cases h : 60 < len
  · exact writes_long a len cap w hl h
  · exact writes_short a len cap ks ns ss w (by omega) hrow
#print axioms writes_all
end Go.Proofs.Ytcnojafpkkfabaa
