/- The walk of a set's text. -/
import Derived.Test.YtmaddfjgiflkbaaDoorCtWithin
import Derived.Test.YtmaddfjgiflkbaaDoorCtRText
import Derived.Test.YtmaddfjgiflkbaaDoorShelf
import Derived.Lib.AppendIntMem
import Derived.WalkSpells
import Derived.Lib.SliceRun
import Derived.Deep.Light
namespace Go.Proofs.YtmaddfjgiflkbaaDoor
set_option maxRecDepth 100000
open Go.RowKit
set_option maxRecDepth 100000
set_option linter.unusedVariables false

theorem gPow : Tryd.prog.globalNamed "internal/strconv.uint64pow10" = some 3 := by kernel_rfl
/-- The library's table of powers of ten. -/
structure TabL (w : World) : Prop where
  size : 4 ≤ w.heap.size
  tab : Lib.TabIs Tryd.prog w "internal/strconv.uint64pow10" .u64 Lib.pow10Tab
theorem TabL.below {w w' : World} (h : TabL w) (hb : Below w.heap.size w w') : TabL w' := by
  obtain ⟨h0, h4⟩ := h
  refine ⟨by have := hb.size; omega, ?_⟩
  unfold Lib.TabIs World.var? at *
  rw [gPow] at *
  have := hb.block 3 (by omega)
  simp only [Option.bind_some] at *
  rw [this]; exact h4
theorem TabL.alloc {w : World} (h : TabL w) (o : Obj) : TabL (w.alloc o) := h.below ((Below.refl _ w).alloc (Nat.le_refl _) _)

theorem Itoa_any (k : Nat) (w : World) (h : TabL w) (hk : k < 1000 := by omega) :
    Calls Tryd.prog 51 #[.int .i64 k] w fun e w' => e = .returned (.string (bs (C.dig k))) ∧ Below w.heap.size w w' := by
  refine (Tryd.strconv_Itoa (k : Int) (by omega) (by omega) w h.tab).mono ?_
  rintro e w1 ⟨rfl, q, os, rfl⟩
  exact ⟨rfl, Lib.below_grow _ _ (Nat.le_refl _) _ _⟩

theorem Has_is (n : Nat) (k : Int) (b : Bool) (w : World) (h : C.has n k = b) :
    Calls Tryd.prog 18 #[.agg (C.cv n), .int .i64 k] w fun e w' => e = .returned (.bool b) ∧ Below w.heap.size w w' := by
  subst h; exact Has_any n k w

set_option maxHeartbeats 4000000 in
theorem runEnd_any (n k : Nat) (w : World) (hk : k < 240 := by omega) :
    Calls Tryd.prog 52 #[.agg (C.cv n), .int .i64 k] w fun e w' => e = .returned (.int .i64 (C.run n k : Nat)) ∧ Below w.heap.size w w' := by
  have H0 := Lib.hid (SetAt.new w n)
  obtain ⟨r, hr⟩ : ∃ r, C.run n k = r := ⟨_, rfl⟩
  have Hr := Lib.hid hr
  rw [hr]
  clear hr
  go_enter Tryd.func52, Tryd.ntmps52
  go_wp2
  go_loopw [1] (fun i wr => ∃ j : Nat, j < 240 ∧ i = .int .i64 j ∧ Hid (C.run n j = r) ∧ SetAt wr w.heap.size n ∧ Below w.heap.size w wr) (fun i _ => 240 - (intOf i).toNat)
  case atStart => exact ⟨k, hk, rfl, Hr, H0.out, (Below.refl _ w).alloc (Nat.le_refl _) _⟩
  case round =>
    obtain ⟨j, hj, rfl, HR, hs, hb⟩ := hrel
    clear H0
    have HS := Lib.hid hs
    have hsl := hs.lt
    have hbs := hb.size
    clear hs
    have E := Lib.hid (has_nx n j)
    cases h1 : C.hasN n (j + 1)
    · go_wp2_with (refine load_set rfl rfl rfl HS.out ?_)
      refine (Has_is n _ false _ (E.out.trans h1)).mono ?_
      rintro e w2 ⟨rfl, hb2⟩
      have hbw := hb.trans (hb2.mono hbs)
      have HQ := Lib.hid (C.run_no (n := n) (k := j) (by rw [h1]; simp))
      clear hb2 h1 hb
      go_wp2
      go_ret
      exact ⟨ret_i64 (by rw [← HR.out, HQ.out]), hbw⟩
    · have hlt := C.hasN_lt h1
      go_wp2_with (refine load_set rfl rfl rfl HS.out ?_)
      refine (Has_is n _ true _ (E.out.trans h1)).mono ?_
      rintro e w2 ⟨rfl, hb2⟩
      have hbw := hb.trans (hb2.mono hbs)
      have HS2 := Lib.hid (HS.out.below hb2 hsl)
      have HQ := Lib.hid (C.run_yes (n := n) (k := j) h1)
      clear hb2 h1 hb
      go_wp2
      go_roundw
      case rel => exact ⟨j + 1, by omega, by go_num, Lib.hid (HQ.out.symm.trans HR.out), HS2.out, hbw⟩
      case measure => simp [intOf]; omega
#print axioms runEnd_any

namespace C
def stL (n : Nat) (l : List Int) : List (List UInt8) × Nat := l.foldl (fun s z => step n s z.toNat) ([], 0)
theorem stL_to (n : Nat) : ∀ k, stL n (listTo n k) = stTo n k
  | 0 => rfl
  | k + 1 => by
    have ih := stL_to n k
    rw [listTo_succ]
    show _ = if hasN n k then step n (stTo n k) k else stTo n k
    unfold stL at *
    rw [List.foldl_append, ih]
    cases hasN n k <;> simp
theorem stL_take (n : Nat) (l : List Int) (t : Nat) (h : t < l.length) : stL n (l.take (t + 1)) = step n (stL n (l.take t)) (l.getD t 0).toNat := by
  rw [getD_take l t h]; unfold stL; rw [List.foldl_append]; rfl
theorem list_get (n t : Nat) (h : t < (list n).length) : ∃ k : Nat, k < 240 ∧ (list n).getD t 0 = k := by
  unfold list listTo at *
  rw [List.length_map] at h
  rw [List.getD_eq_getElem?_getD, List.getElem?_map, List.getElem?_eq_getElem h]
  have hm := List.getElem_mem h
  rw [List.mem_filter, List.mem_range] at hm
  exact ⟨_, hm.1, rfl⟩
theorem list_len (n : Nat) : (list n).length ≤ 240 := by
  have := listTo_len n 240
  unfold intsV at this
  rwa [List.length_map] at this
theorem step_le (n : Nat) (s : List (List UInt8) × Nat) (k : Nat) (hk : k < 240) (h : s.2 ≤ 240) : (step n s k).2 ≤ 240 ∧ (step n s k).1.length ≤ s.1.length + 1 := by
  have := run_lt n k hk
  unfold step
  split
  · exact ⟨h, by omega⟩
  · split
    · exact ⟨by show run n k + 1 ≤ 240; omega, by simp⟩
    · exact ⟨by show k + 1 ≤ 240; omega, by simp⟩
theorem stL_le (n : Nat) : ∀ t, t ≤ (list n).length → (stL n ((list n).take t)).2 ≤ 240 ∧ (stL n ((list n).take t)).1.length ≤ t
  | 0, _ => by simp [stL]
  | t + 1, h => by
    obtain ⟨h1, h2⟩ := stL_le n t (by omega)
    obtain ⟨k, hk, e⟩ := list_get n t (by omega)
    have h3 := step_le n (stL n ((list n).take t)) k hk h1
    rw [stL_take n (list n) t (by omega), e, Int.toNat_natCast]
    omega
theorem join_len (n : Nat) : (Lib.join (stTo n 240).1 [44]).length ≤ 960 := by
  have h := J_to n 240 (Nat.le_refl _)
  rw [h.join]
  have := refTo_len n (stTo n 240).2 h.le
  have := h.le
  omega
end C

theorem run_eql_some_nil (w : World) (t e : TypeId) (a : Addr) (n c n' c' : Nat) (h : Tryd.prog.underlying t = some (.slice e)) : (binOp .eql t (.slice (some a) n c) (.slice none n' c')).run Tryd.prog w = .ok (.bool false) w := by
  have := Lib.run_eql_slice_nil w t e (some a) n c n' c' h
  simpa using this
theorem run_eql_none_nil (w : World) (t e : TypeId) (n c n' c' : Nat) (h : Tryd.prog.underlying t = some (.slice e)) : (binOp .eql t (.slice none n c) (.slice none n' c')).run Tryd.prog w = .ok (.bool true) w := by
  have := Lib.run_eql_slice_nil w t e none n c n' c' h
  simpa using this
/-- Texts as a row's cells. -/
def strsV (l : List (List UInt8)) : List Value := l.map fun x => .string (bs x)
theorem VBuf.cap_ge {e : TypeId} {base : Nat} {ao : Option Addr} {cap : Nat} {vs : List Value} {w : World} (h : VBuf e base ao cap vs w) : vs.length ≤ cap := by
  rcases h.2 with ⟨hv, hn⟩ | ⟨g, cap', cur, hv, hbg, hg, hc, _⟩
  · omega
  · have : cap = cap' := by simpa using congrArg (fun v => match v with | .slice _ _ c => c | _ => 0) hv
    omega

set_option maxHeartbeats 16000000 in
theorem Text_any (n : Nat) (w : World) (L : TabL w) :
    Calls Tryd.prog 24 #[.agg (C.cv n)] w fun e w' => e = .returned (.string (bs (C.text n))) ∧ Below w.heap.size w w' := by
  obtain ⟨R, hR⟩ : ∃ R, bs (C.text n) = R := ⟨_, rfl⟩
  have HR : Hid (bs (if (C.stL n (C.list n)).1 = [] then [45] else Lib.join (C.stL n (C.list n)).1 [44]) = R) := Lib.hid (by
    rw [show C.stL n (C.list n) = C.stTo n 240 from C.stL_to n 240, ← C.text_runs]; exact hR)
  rw [hR]
  clear hR
  have HJ : Hid ((Lib.join (C.stL n (C.list n)).1 [44]).length ≤ 960) := Lib.hid (by rw [show C.stL n (C.list n) = C.stTo n 240 from C.stL_to n 240]; exact C.join_len n)
  have H0 := Lib.hid (SetAt.new w n)
  have hb0 : Below w.heap.size w (w.alloc (.cells (C.cv n) 23)) := (Below.refl _ w).alloc (Nat.le_refl _) _
  have HL0 := Lib.hid (L.alloc (.cells (C.cv n) 23))
  clear L
  go_enter Tryd.func24, Tryd.ntmps24
  go_wp2_with (refine load_set rfl rfl rfl H0.out ?_)
  refine (List_any n _).mono ?_
  rintro e w1 ⟨lo, lc, rfl, hrow, hb1⟩
  have Hrow := Lib.hid hrow
  have HS1 := Lib.hid (H0.out.below hb1 (by simp))
  have hsl := HS1.out.lt
  have HL1 := Lib.hid (HL0.out.below hb1)
  have hbw1 := hb0.trans (hb1.mono hb0.size)
  have hll := C.list_len n
  have HK := Lib.hid (C.list_get n)
  have HT := Lib.hid (C.stL_take n (C.list n))
  have HE := Lib.hid (C.stL_le n)
  clear hrow hb1 H0 HL0 hb0
  generalize hl : C.list n = l at *
  clear hl
  go_wp2
  go_loopw [3, 4, 12] (fun s x i wr => ∃ (t : Nat) (ao : Option Addr) (cp : Nat), t ≤ l.length ∧ i = .int .i64 t ∧ x = .int .i64 ((C.stL n (l.take t)).2 : Nat) ∧ s = .slice ao (strsV (C.stL n (l.take t)).1).length cp ∧ VBuf 9 w1.heap.size ao cp (strsV (C.stL n (l.take t)).1) wr ∧ ((C.stL n (l.take t)).1 = [] → ao = none) ∧ Below w1.heap.size w1 wr) (fun _ _ i _ => l.length - (intOf i).toNat)
  case atStart => exact ⟨0, none, 0, Nat.zero_le _, rfl, rfl, rfl, VBuf.nil _ _ _, fun _ => rfl, Below.refl _ _⟩
  case round =>
    obtain ⟨t, ao, cp, ht, rfl, rfl, rfl, hbuf, hnil, hb⟩ := hrel
    have hbs := hb.size
    have hle := HE.out t ht
    by_cases hlt : t < l.length
    · obtain ⟨k, hk, hz⟩ := HK.out t hlt
      obtain ⟨bb, off, rfl, hbl, c0⟩ := Hrow.out.then hb t hlt
      have Ht := Lib.hid (HT.out t hlt)
      rw [hz] at c0
      rw [hz, Int.toNat_natCast] at Ht
      clear hz
      generalize C.stL n (l.take t) = st at *
      obtain ⟨told, nx⟩ := st
      simp only at hle hbuf hnil ⊢
      have hsv : (strsV told).length ≤ t := by unfold strsV; rw [List.length_map]; exact hle.2
      have hn240 : nx ≤ 240 := hle.1
      by_cases hskip : k < nx
      · have Hst : Hid (C.step n (told, nx) k = (told, nx)) := Lib.hid (by unfold C.step; rw [if_pos hskip])
        have Hnil := Lib.hid hnil
        clear hnil
        go_wp2
        go_roundw
        case rel => exact ⟨t + 1, ao, cp, by omega, by go_num, by rw [Ht.out, Hst.out], by rw [Ht.out, Hst.out], by rw [Ht.out, Hst.out]; exact hbuf, by rw [Ht.out, Hst.out]; exact Hnil.out, hb⟩
        case measure => simp [intOf]; omega
      · have HS := Lib.hid (HS1.out.below hb hsl)
        have HL := Lib.hid (HL1.out.below hb)
        have hrl := C.run_lt n k hk
        have hrg := C.run_ge n k
        have hz1 : (bs (C.dig k)).size ≤ 3 := by rw [bs_size]; exact dig_len k (by omega)
        have hz2 : (bs (C.dig (C.run n k))).size ≤ 3 := by rw [bs_size]; exact dig_len _ (by omega)
        clear hnil
        go_wp2
        clear c0
        generalize hW0 : wr = W0 at *
        clear hW0
        refine region_gen (VG W0.heap.size [.val (.int .i64 (k : Nat)), .val (.string (bs (C.dig k))), .val (.agg (C.cv (n))), .val (.int .i64 (k : Nat)), .val (.int .i64 (C.run n k : Nat)), .val (.string (bs (C.dig k))), .val (.int .i64 (C.run n k : Nat))]) (BS W0) (by kernel_rfl) (by kernel_rfl) (Below.refl _ _).drew ⟨?_, ?_, ?_, ?_, ?_, ?_, ?_, trivial⟩ ?_
        · go_light; intro listed a' w' hs hS hun hdep
          have e6 : a'.eval (.tmp 6) = .int .i64 (k : Nat) := (hs.out 6 (by kernel_rfl)).trans (rfl)
          refine g_val (.int .i64 (k : Nat)) hS rfl ?_ rfl
          have hcn := BigFrame.eval_const a'
          have hfn := BigFrame.eval_func a'
          clear hs hdep
          generalize a'.eval = ev at *
          go_simp
        · go_light; intro listed a' w' hs hS hun hdep
          have e19 : a'.eval (.tmp 19) = .int .i64 (k : Nat) := hs.eval 0 _ 19 rfl (hdep ⟨0, .data⟩ (by simp) rfl) rfl
          refine g_call 51 #[.int .i64 (k : Nat)] hS rfl ?_ ?_
          · have hcn := BigFrame.eval_const a'; have hfn := BigFrame.eval_func a'; clear hs hdep; generalize a'.eval = ev at *; go_simp
          · exact c_val (Itoa_any k w' (HL.out.below hS)) rfl
        · go_light; intro listed a' w' hs hS hun hdep
          have e1 : a'.eval (.tmp 1) = .pointer (some ⟨w.heap.size, 0, none⟩) := (hs.out 1 (by kernel_rfl)).trans (rfl)
          exact g_val (.agg (C.cv (n))) hS rfl (run_op_load rfl e1 (HS.out.below hS HS.out.lt)) rfl
        · go_light; intro listed a' w' hs hS hun hdep
          have e6 : a'.eval (.tmp 6) = .int .i64 (k : Nat) := (hs.out 6 (by kernel_rfl)).trans (rfl)
          refine g_val (.int .i64 (k : Nat)) hS rfl ?_ rfl
          have hcn := BigFrame.eval_const a'
          have hfn := BigFrame.eval_func a'
          clear hs hdep
          generalize a'.eval = ev at *
          go_simp
        · go_light; intro listed a' w' hs hS hun hdep
          have e21 : a'.eval (.tmp 21) = .agg (C.cv (n)) := hs.eval 2 _ 21 rfl (hdep ⟨2, .data⟩ (by simp) rfl) rfl
          have e22 : a'.eval (.tmp 22) = .int .i64 (k : Nat) := hs.eval 3 _ 22 rfl (hdep ⟨3, .data⟩ (by simp) rfl) rfl
          refine g_call 52 #[.agg (C.cv (n)), .int .i64 (k : Nat)] hS rfl ?_ ?_
          · have hcn := BigFrame.eval_const a'; have hfn := BigFrame.eval_func a'; clear hs hdep; generalize a'.eval = ev at *; go_simp
          · exact c_val (runEnd_any n k w') rfl
        · go_light; intro listed a' w' hs hS hun hdep
          have e20 : a'.eval (.tmp 20) = .string (bs (C.dig k)) := hs.eval 1 _ 20 rfl (hdep ⟨1, .data⟩ (by simp) rfl) rfl
          refine g_val (.string (bs (C.dig k))) hS rfl ?_ rfl
          have hcn := BigFrame.eval_const a'
          have hfn := BigFrame.eval_func a'
          clear hs hdep
          generalize a'.eval = ev at *
          go_simp
        · go_light; intro listed a' w' hs hS hun hdep
          have e23 : a'.eval (.tmp 23) = .int .i64 (C.run n k : Nat) := hs.eval 4 _ 23 rfl (hdep ⟨4, .data⟩ (by simp) rfl) rfl
          refine g_val (.int .i64 (C.run n k : Nat)) hS rfl ?_ rfl
          have hcn := BigFrame.eval_const a'
          have hfn := BigFrame.eval_func a'
          clear hs hdep
          generalize a'.eval = ev at *
          go_simp
        · intro vs w3 hlen hV listed hall hS
          match vs, hlen, hV with
          | [v0, v1, v2, v3, v4, v5, v6], _, hV =>
            have q0 : v0 = .int .i64 (k : Nat) := hV 0 _ rfl
            have q1 : v1 = .string (bs (C.dig k)) := hV 1 _ rfl
            have q2 : v2 = .agg (C.cv (n)) := hV 2 _ rfl
            have q3 : v3 = .int .i64 (k : Nat) := hV 3 _ rfl
            have q4 : v4 = .int .i64 (C.run n k : Nat) := hV 4 _ rfl
            have q5 : v5 = .string (bs (C.dig k)) := hV 5 _ rfl
            have q6 : v6 = .int .i64 (C.run n k : Nat) := hV 6 _ rfl
            have hbel : Below W0.heap.size W0 w3 := hS
            subst q0 q1 q2 q3 q4 q5 q6
            clear hV hS hall
            simp only [lays, Act.put, List.setIfInBounds_toArray, List.set_cons_zero, List.set_cons_succ]
            have hbw3 : Below w1.heap.size w1 w3 := hb.trans (hbel.mono hbs)
            have hbuf3 := hbuf.carry hbel
            have HL3 := Lib.hid (HL.out.below hbel)
            have hbs3 := hbw3.size
            clear hbel hb hbuf HS HL hbs
            have hl1 : ByteArray.size (⟨#[45]⟩ : ByteArray) = 1 := rfl
            by_cases h3 : 3 ≤ C.run n k - k + 1
            · have h3' : (3 : Int) ≤ (C.run n k : Int) - (k : Int) + 1 := by omega
              have Hst : Hid (C.step n (told, nx) k = (told ++ [C.dig k ++ 45 :: C.dig (C.run n k)], C.run n k + 1)) := Lib.hid (by unfold C.step; rw [if_neg hskip, if_pos h3])
              have HI := Lib.hid (fun w h => Itoa_any (C.run n k) w h)
              have Hbs : Hid (bs (C.dig k) ++ (⟨#[45]⟩ ++ bs (C.dig (C.run n k))) = bs (C.dig k ++ 45 :: C.dig (C.run n k))) := Lib.hid (by rw [show (⟨#[45]⟩ : ByteArray) = bs [45] from rfl, bs_append, bs_append]; rfl)
              generalize C.run n k = q at *
              go_wp2_with fail
              refine (HI.out _ HL3.out).mono ?_
              rintro e w4 ⟨rfl, hb4⟩
              have hbw4 := hbw3.trans (hb4.mono hbs3)
              have hbuf4 := hbuf3.carry hb4
              have hbs4 := hbw4.size
              clear hb4 hbw3 hbuf3 HI HL3
              obtain ⟨ao', cp', w5, hrun, hbuf5, hg⟩ := append_one 9 77 _ _ Tryd.underlying77 Tryd.info_str rfl (by omega) w1.heap.size ao cp (strsV told) (w4.alloc (.cells #[.string (bs (C.dig k) ++ (⟨#[45]⟩ ++ bs (C.dig q)))] 9)) (hbuf4.alloc _) (.string (bs (C.dig k) ++ (⟨#[45]⟩ ++ bs (C.dig q)))) rfl w4.heap.size (by simp) 77 (by omega) (by simp; omega)
              have hb5 : Below w1.heap.size w1 w5 := (hbw4.alloc (by omega) _).grown hg (by simp; omega) hbuf4.own
              have Hrun := Lib.hid hrun
              clear hrun hg hbuf4 hbw4
              go_wp2_with (at_builtin; refine listAppend rfl _ _ _ _ rfl _ _ rfl rfl _ _ Hrun.out ?_)
              go_roundw
              case rel => exact ⟨t + 1, ao', cp', by omega, by go_num, by rw [Ht.out, Hst.out]; go_num, by rw [Ht.out, Hst.out]; simp [strsV], by rw [Ht.out, Hst.out]; rw [Hbs.out] at hbuf5; simpa [strsV] using hbuf5, by rw [Ht.out, Hst.out]; simp, hb5⟩
              case measure => simp [intOf]; omega
            · have h3' : ¬ (3 : Int) ≤ (C.run n k : Int) - (k : Int) + 1 := by omega
              have Hst : Hid (C.step n (told, nx) k = (told ++ [C.dig k], k + 1)) := Lib.hid (by unfold C.step; rw [if_neg hskip, if_neg h3])
              generalize C.run n k = q at *
              obtain ⟨ao', cp', w5, hrun, hbuf5, hg⟩ := append_one 9 77 _ _ Tryd.underlying77 Tryd.info_str rfl (by omega) w1.heap.size ao cp (strsV told) (w3.alloc (.cells #[.string (bs (C.dig k))] 9)) (hbuf3.alloc _) (.string (bs (C.dig k))) rfl w3.heap.size (by simp) 77 (by omega) (by simp; omega)
              have hb5 : Below w1.heap.size w1 w5 := (hbw3.alloc (by omega) _).grown hg (by simp; omega) hbuf3.own
              have Hrun := Lib.hid hrun
              clear hrun hg hbuf3 hbw3 HL3
              go_wp2_with (at_builtin; refine listAppend rfl _ _ _ _ rfl _ _ rfl rfl _ _ Hrun.out ?_)
              go_roundw
              case rel => exact ⟨t + 1, ao', cp', by omega, by go_num, by rw [Ht.out, Hst.out]; go_num, by rw [Ht.out, Hst.out]; simp [strsV], by rw [Ht.out, Hst.out]; simpa [strsV] using hbuf5, by rw [Ht.out, Hst.out]; simp, hb5⟩
              case measure => simp [intOf]; omega
    · have e : l.take t = l := List.take_of_length_le (by omega)
      rw [e] at hbuf hnil hle ⊢
      clear e
      generalize C.stL n l = st at *
      obtain ⟨told, nx⟩ := st
      simp only at hle hbuf hnil HR HJ ⊢
      by_cases h0 : told = []
      · obtain rfl := hnil h0
        subst h0
        have HR1 : Hid (bs [45] = R) := Lib.hid (by have := HR.out; rw [if_pos rfl] at this; exact this)
        have heq := fun w m c => run_eql_none_nil w 77 9 m c 0 0 Tryd.underlying77
        clear HR
        go_wp2
        go_ret
        exact ⟨by rw [← HR1.out]; rfl, hbw1.trans (hb.mono hbw1.size)⟩
      · have hsv : (strsV told).length = told.length := List.length_map _
        have hpos : 0 < (strsV told).length := by rw [hsv]; exact List.length_pos_iff.2 h0
        obtain ⟨g, rfl, hge, hglt, hcell⟩ := hbuf.at hpos
        have hcap := hbuf.cap_ge
        have HR1 : Hid (bs (Lib.join told [44]) = R) := Lib.hid (by have := HR.out; rw [if_neg h0] at this; exact this)
        have Hcell := Lib.hid hcell
        obtain ⟨xs, hxs⟩ : ∃ xs, told.map bs = xs := ⟨_, rfl⟩
        have Hxs := Lib.hid hxs
        have hxl : (strsV told).length = xs.length := by rw [← hxs, hsv, List.length_map]
        have hxt : xs.length ≤ 240 := by rw [← hxl, hsv]; omega
        rw [hxl] at hcap ⊢
        clear hxl hxs
        have heq := fun w m c => run_eql_some_nil w 77 9 ⟨g, 0, none⟩ m c 0 0 Tryd.underlying77
        clear HR hcell hnil hbuf hsv hpos
        go_wp2_with fail
        clear heq
        have hj : Lib.join (xs.map (·.data.toList)) [44] = Lib.join told [44] := by
          rw [← Hxs.out, List.map_map, show ((fun (x : ByteArray) => x.data.toList) ∘ bs) = id from rfl, List.map_id]
        refine (Tryd.strings_Join g 0 cp xs ⟨#[44]⟩ _ (fun j x hx => ?_) hglt (by omega) hcap (by rw [show (⟨#[44]⟩ : ByteArray).data.toList = [44] from rfl, hj]; have := HJ.out; omega)).mono ?_
        · rw [Nat.zero_add]
          refine Hcell.out j _ ?_
          unfold strsV
          rw [← Hxs.out] at hx
          rw [List.getElem?_map] at hx ⊢
          cases hq : told[j]? with
          | none => rw [hq] at hx; cases hx
          | some y => rw [hq] at hx; simp only [Option.map_some, Option.some.injEq] at hx; subst hx; rfl
        · rintro e w6 ⟨rfl, hb6⟩
          have HQ : Hid ((⟨(Lib.join (xs.map (·.data.toList)) (⟨#[44]⟩ : ByteArray).data.toList).toArray⟩ : ByteArray) = R) := Lib.hid (by rw [show (⟨#[44]⟩ : ByteArray).data.toList = [44] from rfl, hj]; exact HR1.out)
          have hbw6 := (hbw1.trans (hb.mono hbw1.size)).trans (hb6.mono (by have := hbw1.size; omega))
          clear hb6 hj Hcell
          rw [HQ.out]
          go_wp2
          go_ret
          exact ⟨rfl, hbw6⟩
#print axioms Text_any
end Go.Proofs.YtmaddfjgiflkbaaDoor
