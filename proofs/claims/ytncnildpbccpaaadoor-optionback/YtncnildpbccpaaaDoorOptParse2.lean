/- The walk of all options of bytes. -/
import Derived.Test.YtncnildpbccpaaaDoorOptParse
namespace Go.Proofs.YtncnildpbccpaaaDoor
set_option maxRecDepth 100000
open Go.RowKit

theorem par_step_one (l : List Opt) (t : List UInt8) : O.app l (O.par (1 :: t)) = O.app (l ++ [⟨1, ⟨#[]⟩⟩]) (O.par t) := by rw [O.app_snoc, O.par_one]; rfl

theorem par_step_long (l : List Opt) (k n : UInt8) (t : List UInt8) (h0 : k ≠ 0) (h1 : k ≠ 1) (hn : n.toNat ≤ 2 + t.length) (hn2 : 2 ≤ n.toNat) :
    O.app l (O.par (k :: n :: t)) = O.app (l ++ [⟨(k.toNat : Int), ba (t.take (n.toNat - 2))⟩]) (O.par (t.drop (n.toNat - 2))) := by
  rw [O.app_snoc, O.par_long k n t h0 h1, if_neg (by omega), if_neg (by omega)]
  rfl

theorem error_of {l : List Opt} {x : Except Nat (List Opt)} {n : Nat} {y : Except Nat (List Opt)} (h : y = O.app l x) (hx : x = .error n) : y = .error n := by rw [h, hx]; rfl

set_option maxHeartbeats 2000000 in
theorem parse_go (s : List UInt8) (w : World) (h : s.length ≤ 40) (h4 : s.length % 4 = 0) :
    Calls Tryd.prog 10 #[.string (ba s)] w (O.Parsed (O.par s) w) := by
  have hz := ba_size s
  have hp : O.pad s.length = 0 := by unfold O.pad; omega
  have Hp := Lib.hid hp
  clear hp
  obtain ⟨R, hR⟩ : ∃ R, O.par s = R := ⟨_, rfl⟩
  have HR := Lib.hid hR
  rw [hR]
  clear hR
  have HP : Hid (∀ n w', R = .error n → Below w.heap.size w w' → O.Parsed R w (.returned (.tuple #[.slice none 0 0, .int .i64 n])) w') := Lib.hid (by rintro n w' rfl hb; exact ⟨rfl, hb⟩)
  have HO : Hid (∀ l ao cp w', R = .ok l → OptRow w' ao l → Below w.heap.size w w' → O.Parsed R w (.returned (.tuple #[.slice ao l.length cp, .int .i64 0])) w') := Lib.hid (by rintro l ao cp w' rfl h1 h2; exact ⟨ao, cp, rfl, h1, h2⟩)
  generalize hG : O.Parsed R w = G at *
  clear hG
  go_enter Tryd.func10, Tryd.ntmps10
  go_wp2_with fail
  refine (padding_any s.length w (by omega)).mono ?_
  rintro e w1 ⟨rfl, rfl⟩
  rw [Hp.out]
  go_wp2_with fail
  refine (Read_any (ba s) w).mono ?_
  rintro e w1 ⟨rfl, hr1, hb1⟩
  have hb1s := hb1.size
  have hlt1 := lt_of_block hr1.cells
  go_wp2
  have hps : Ps w.heap.size w1.heap.size w.heap.size (some (ba s)) [] (w1.alloc (.cells #[.pointer (some ⟨w.heap.size, 0, none⟩), .slice none 0 0] 54)) :=
    ⟨hb1s, by omega, ⟨none, 0, heap_alloc_new w1 _, OptBuf.nil _ _⟩, ⟨hr1.low, (Below.heap_alloc w1 _ _ hlt1).trans hr1.cells⟩⟩
  have hb2 : Below w.heap.size w (w1.alloc (.cells #[.pointer (some ⟨w.heap.size, 0, none⟩), .slice none 0 0] 54)) := hb1.alloc hb1s _
  clear hr1 hb1 hz
  generalize (w1.alloc (.cells #[.pointer (some ⟨w.heap.size, 0, none⟩), .slice none 0 0] 54)) = w2 at *
  generalize w1.heap.size = p at *
  generalize hB : w.heap.size = B at *
  clear hB hb1s hlt1
  go_loopg [5] s.length (fun g x wr => ∃ (t : List UInt8) (l : List Opt), t.length = g ∧ Ps B p B (some (ba t)) l wr ∧ Below B w wr ∧ Hid (R = O.app l (O.par t)) ∧ l.length + t.length ≤ 40)
  case atStart => exact ⟨s, [], rfl, hps, hb2, Lib.hid (by rw [O.app_nil]; exact HR.out.symm), by simpa using h⟩
  case round =>
    obtain ⟨t, l, hg, hps, hb, Hq, hlen⟩ := hrel
    have Hg := Lib.hid hg
    clear hg
    obtain ⟨c0, f1, hpl, ao, cap, c1, hbuf⟩ := hps.at
    have Hps := Lib.hid hps
    clear hps
    have Hbuf := Lib.hid hbuf
    clear hbuf
    go_wp2_with fail
    refine (Left_any B B (some (ba t)) wr Hps.out.rd).mono ?_
    rintro e w3 ⟨rfl, rfl⟩
    simp only [Option.getD_some, ba_size]
    match t, Hg, Hps, Hq, hlen with
    | [], Hg, Hps, Hq, hlen =>
      simp only [List.length_nil]
      go_wp2
      exact HO.out l ao cap wr (by rw [Hq.out, O.par_nil]; simp [O.app]) Hbuf.out.row hb
    | k :: t, Hg, Hps, Hq, hlen =>
      have hlen' : l.length + t.length + 1 ≤ 40 := by simpa [Nat.add_assoc] using hlen
      clear hlen
      simp only [List.length_cons]
      by_cases hk0 : k = 0
      · subst hk0
        go_wp2_with fail
        refine (next_zero B p B t l wr Hps.out (by omega)).mono ?_
        rintro e w3 ⟨rfl, hps3, hb3⟩
        have hbw := hb.trans hb3
        have hpz := O.par_zero t
        clear hb hb3 c0 c1 f1 Hbuf Hps
        cases hall : t.all (· == 0) with
        | true =>
          have Hpz : Hid (O.par (0 :: t) = .ok []) := Lib.hid (by rw [hpz, hall]; rfl)
          clear hall hpz
          simp only [if_true]
          go_wp2
          go_roundg 0
          case measure => rw [← Hg.out]; simp
          case rel => exact ⟨[], l, rfl, hps3, hbw, Lib.hid (by rw [Hq.out, Hpz.out, O.par_nil]), by simp; omega⟩
        | false =>
          have Hpz : Hid (O.par (0 :: t) = .error 3) := Lib.hid (by rw [hpz, hall]; rfl)
          clear hall hpz
          simp only [Bool.false_eq_true, if_false]
          go_wp2
          exact HP.out 3 w3 (error_of Hq.out Hpz.out) hbw
      · by_cases hk1 : k = 1
        · subst hk1
          go_wp2_with fail
          refine (next_one B p B t l wr Hps.out (by omega) (by omega)).mono ?_
          rintro e w3 ⟨rfl, hps3, hb3⟩
          have hbw := hb.trans hb3
          clear hb hb3 c0 c1 f1 Hbuf Hps
          go_wp2
          go_roundg t.length
          case measure => rw [← Hg.out]; simp
          case rel => exact ⟨t, _, rfl, hps3, hbw, Lib.hid (by rw [Hq.out, par_step_one]), by simp; omega⟩
        · match t, Hg, Hps, Hq, hlen' with
          | [], Hg, Hps, Hq, hlen' =>
            have Hpz := Lib.hid (O.par_end k hk0 hk1)
            go_wp2_with fail
            refine (next_long B p B k [] l wr Hps.out (by simp) hk0 hk1 2 (fun w' => Below B w w') (fun w1 h1 h2 => (long_none B p B _ l w1 h1).mono fun e w' ⟨he, hb'⟩ => ⟨he, (hb.trans h2).trans hb'⟩)).mono ?_
            rintro e w3 ⟨rfl, hbw⟩
            clear hb c0 c1 f1 Hbuf Hps
            go_wp2
            exact HP.out 2 w3 (error_of Hq.out Hpz.out) hbw
          | n :: t, Hg, Hps, Hq, hlen' =>
            have hlen : l.length + t.length + 2 ≤ 40 := by simpa [Nat.add_assoc] using hlen'
            clear hlen'
            have hpz := O.par_long k n t hk0 hk1
            by_cases hn : 2 + t.length < n.toNat
            · have Hpz : Hid (O.par (k :: n :: t) = .error 2) := Lib.hid (by rw [hpz, if_pos hn])
              clear hpz
              go_wp2_with fail
              refine (next_long B p B k (n :: t) l wr Hps.out (by simp; omega) hk0 hk1 2 (fun w' => Below B w w') (fun w1 h1 h2 => (long_short B p B _ n t l w1 h1 (by omega) hn).mono fun e w' ⟨he, hb'⟩ => ⟨he, (hb.trans h2).trans hb'⟩)).mono ?_
              rintro e w3 ⟨rfl, hbw⟩
              clear hb c0 c1 f1 Hbuf Hps
              go_wp2
              exact HP.out 2 w3 (error_of Hq.out Hpz.out) hbw
            · by_cases hn2 : n.toNat < 2
              · have Hpz : Hid (O.par (k :: n :: t) = .error 3) := Lib.hid (by rw [hpz, if_neg hn, if_pos hn2])
                clear hpz
                go_wp2_with fail
                refine (next_long B p B k (n :: t) l wr Hps.out (by simp; omega) hk0 hk1 3 (fun w' => Below B w w') (fun w1 h1 h2 => (long_form B p B _ n t l w1 h1 (by omega) (by omega) hn2).mono fun e w' ⟨he, hb'⟩ => ⟨he, (hb.trans h2).trans hb'⟩)).mono ?_
                rintro e w3 ⟨rfl, hbw⟩
                clear hb c0 c1 f1 Hbuf Hps
                go_wp2
                exact HP.out 3 w3 (error_of Hq.out Hpz.out) hbw
              · have Hst := Lib.hid (par_step_long l k n t hk0 hk1 (by omega) (by omega))
                clear hpz
                go_wp2_with fail
                refine (next_long B p B k (n :: t) l wr Hps.out (by simp; omega) hk0 hk1 0 (fun w' => Ps B p B (some (ba (t.drop (n.toNat - 2)))) (l ++ [⟨(k.toNat : Int), ba (t.take (n.toNat - 2))⟩]) w' ∧ Below B w w') (fun w1 h1 h2 => (long_ok B p B _ n t l w1 h1 (by omega) (by omega) (by omega) (by omega)).mono fun e w' ⟨he, hps', hb'⟩ => ⟨he, hps', (hb.trans h2).trans hb'⟩)).mono ?_
                rintro e w3 ⟨rfl, hps3, hbw⟩
                clear hb c0 c1 f1 Hbuf Hps
                go_wp2
                go_roundg (t.drop (n.toNat - 2)).length
                case measure => rw [← Hg.out]; simp; omega
                case rel => exact ⟨_, _, rfl, hps3, hbw, Lib.hid (by rw [Hq.out, Hst.out]), by simp; omega⟩

theorem optParse_any (s : List UInt8) (w : World) (hs : s.length ≤ 100000) : Calls Tryd.prog 10 #[.string (ba s)] w (O.Parsed (O.parse s) w) := by
  unfold O.parse
  split
  · exact parse_long s w hs (by omega)
  · split
    · exact parse_form s w (by omega) (by assumption)
    · exact parse_go s w (by omega) (by omega)
#print axioms optParse_any
end Go.Proofs.YtncnildpbccpaaaDoor
