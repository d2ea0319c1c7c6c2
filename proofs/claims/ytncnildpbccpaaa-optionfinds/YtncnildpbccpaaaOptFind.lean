/- The walks of what is found among options, and of what is left without some. -/
import Derived.Test.YtncnildpbccpaaaOptBuf
import Derived.Test.YtncnildpbccpaaaOptSame
import Derived.Test.YtncnildpbccpaaaShelf
namespace Go.Proofs.Ytncnildpbccpaaa
open Go.RowKit

namespace O
/-- Of the first k options the first one of a kind, and how many there are. -/
def fnd (kind : Int) (l : List Opt) : Nat → Int × Nat
  | 0 => (-1, 0)
  | k + 1 => if (l.getD k noOpt).kind = kind then (if (fnd kind l k).2 = 0 then (k : Int) else (fnd kind l k).1, (fnd kind l k).2 + 1) else fnd kind l k

theorem fnd_yes (kind : Int) (l : List Opt) (k : Nat) (h : (l.getD k noOpt).kind = kind) : fnd kind l (k + 1) = (if (fnd kind l k).2 = 0 then (k : Int) else (fnd kind l k).1, (fnd kind l k).2 + 1) := by rw [fnd, if_pos h]
theorem fnd_no (kind : Int) (l : List Opt) (k : Nat) (h : ¬ (l.getD k noOpt).kind = kind) : fnd kind l (k + 1) = fnd kind l k := by rw [fnd, if_neg h]

theorem fnd_no1 (kind : Int) (l : List Opt) (k : Nat) (h : ¬ (l.getD k noOpt).kind = kind) : (fnd kind l (k + 1)).1 = (fnd kind l k).1 ∧ (fnd kind l (k + 1)).2 = (fnd kind l k).2 := by rw [fnd_no kind l k h]; exact ⟨rfl, rfl⟩

theorem fnd_inv (kind : Int) (l : List Opt) (k : Nat) : (fnd kind l k).2 ≤ k ∧ ((fnd kind l k).2 = 0 → (fnd kind l k).1 = -1) ∧ (0 < (fnd kind l k).2 → 0 ≤ (fnd kind l k).1 ∧ (fnd kind l k).1 < k) := by
  induction k with
  | zero => exact ⟨Nat.le_refl _, fun _ => rfl, fun h => by simp [fnd] at h⟩
  | succ k ih =>
    obtain ⟨h1, h2, h3⟩ := ih
    by_cases h : (l.getD k noOpt).kind = kind
    · rw [fnd_yes kind l k h]
      refine ⟨by simp only; omega, fun h => by simp at h, fun _ => ?_⟩
      simp only
      split
      · omega
      · have := h3 (by omega); omega
    · rw [fnd_no kind l k h]
      exact ⟨by omega, h2, fun h => by have := h3 h; omega⟩

/-- The options of neither kind. -/
def others (a b : Int) (l : List Opt) : List Opt := l.filter fun o => o.kind != a && o.kind != b

theorem others_take (a b : Int) (l : List Opt) (k : Nat) (h : k < l.length) : others a b (l.take (k + 1)) = others a b (l.take k) ++ (if ((l.getD k noOpt).kind != a && (l.getD k noOpt).kind != b) = true then [l.getD k noOpt] else []) := by
  rw [getD_take l k h]
  unfold others
  rw [List.filter_append]
  congr 1
  simp only [List.filter_cons, List.filter_nil]

theorem others_len (a b : Int) (l : List Opt) : (others a b l).length ≤ l.length := List.length_filter_le _ _
end O

theorem wpList_append_run {P : Program} {ops : Array Oper} {rest : List Oper} {o : Oper} {a : Act} {w : World} {Q : Exit → Act → World → Prop} (hgd : o.guard = none) (s x : Operand) (t tx : TypeId)
    (hop : o.op = Op.call { callee := Callee.builtin Builtin.append, args := #[s, x], argTypes := #[t, tx] }) (sv xv : Value) (hs : a.eval s = sv) (hx : a.eval x = xv) (v' : Value) (w' : World)
    (hrun : (Builtin.append_ #[t, tx] o.type #[sv, xv]).run P w = .ok v' w') (h : wpList P ops Q rest (a.put o.dst v') w') : wpList P ops Q (o :: rest) a w :=
  wpList_plain hgd fun _ hK => by
    unfold Oper.wp
    simp [execOp, hop, resolve, invoke, builtin, hs, hx, hrun, Result.andThen]
    exact hK _ _ h

theorem tup2 {a b c d : Int} (h1 : a = c) (h2 : b = d) : Ending.returned (.tuple #[.int .i64 a, .int .i64 b]) = .returned (.tuple #[.int .i64 c, .int .i64 d]) := by rw [h1, h2]

set_option maxHeartbeats 1000000 in
theorem find_any (a : Option Addr) (cap : Nat) (l : List Opt) (kind : Int) (w : World) (h : OptRow w a l) (hl : l.length ≤ 60) :
    Calls Try.prog 13 #[.slice a l.length cap, .int .i64 kind] w fun e w' => e = .returned (.tuple #[.int .i64 (O.fnd kind l l.length).1, .int .i64 (O.fnd kind l l.length).2]) ∧ Below w.heap.size w w' := by
  have Hrow := Lib.hid h
  clear h
  go_enter Try.func13, Try.ntmps13
  go_wp2
  go_loopw [6, 7, 12] (fun f n i wr => ∃ k : Nat, k ≤ l.length ∧ i = .int .i64 k ∧ f = .int .i64 (O.fnd kind l k).1 ∧ n = .int .i64 (O.fnd kind l k).2 ∧ Below w.heap.size w wr) (fun _ _ i _ => l.length - (intOf i).toNat)
  case atStart => exact ⟨0, Nat.zero_le _, rfl, rfl, rfl, Below.refl _ _⟩
  case round =>
    obtain ⟨k, hk, rfl, rfl, rfl, hb⟩ := hrel
    obtain ⟨i1, i2, i3⟩ := O.fnd_inv kind l k
    by_cases hlt : k < l.length
    · obtain ⟨b, off, rfl, hbl, c0, c1⟩ := Hrow.out.then hb k hlt
      have Hy := Lib.hid (O.fnd_yes kind l k)
      have Hn := Lib.hid (O.fnd_no1 kind l k)
      generalize l.getD k noOpt = o at *
      obtain ⟨kd, d⟩ := o
      simp only at c0 c1
      have hbs := hb.size
      generalize (O.fnd kind l k).1 = f at *
      generalize (O.fnd kind l k).2 = n at *
      by_cases he : kd = kind
      · have Hy' := Lib.hid (Hy.out he)
        subst he
        by_cases hn : n = 0
        · subst hn
          have Hz := Lib.hid (i2 rfl)
          clear i1 i2 i3
          go_wp2
          go_roundw
          case rel => exact ⟨k + 1, by omega, by go_num, by rw [Hy'.out]; rfl, by rw [Hy'.out]; rfl, hb.alloc hbs _⟩
          case measure => simp [intOf]; omega
        · have i3' := i3 (by omega)
          clear i2 i3
          go_wp2
          go_roundw
          case rel => exact ⟨k + 1, by omega, by go_num, by rw [Hy'.out, if_neg hn], by rw [Hy'.out]; go_num, hb.alloc hbs _⟩
          case measure => simp [intOf]; omega
      · have Hn' := Lib.hid (Hn.out he)
        clear i1 i2 i3
        go_wp2
        go_roundw
        case rel => exact ⟨k + 1, by omega, by go_num, by rw [Hn'.out.1], by rw [Hn'.out.2], hb.alloc hbs _⟩
        case measure => simp [intOf]; omega
    · obtain rfl : k = l.length := by omega
      clear i1 i2 i3
      go_wp2
      go_ret2
      exact ⟨rfl, hb⟩

/-- Two numbers in a row, and the row in a box: what a closure holds. -/
structure Two (K r : Nat) (x y : Int) (w : World) : Prop where
  box : w.cell? ⟨K, 0, none⟩ = some (.slice (some ⟨r, 0, none⟩) 2 2)
  fst : w.cell? ⟨r, 0, none⟩ = some (.int .i64 x)
  snd : w.cell? ⟨r, 1, none⟩ = some (.int .i64 y)
  ltK : K < w.heap.size
  ltr : r < w.heap.size

theorem Two.carry {K r : Nat} {x y : Int} {w w' : World} (h : Two K r x y w) (hb : Below w.heap.size w w') : Two K r x y w' :=
  ⟨(hb.cell (p := ⟨K, 0, none⟩) h.ltK).trans h.box, (hb.cell (p := ⟨r, 0, none⟩) h.ltr).trans h.fst, (hb.cell (p := ⟨r, 1, none⟩) h.ltr).trans h.snd, Nat.lt_of_lt_of_le h.ltK hb.size, Nat.lt_of_lt_of_le h.ltr hb.size⟩

theorem two_contains (x y z : Int) : (([x, y] : List Int).take 2).contains z = !(z != x && z != y) := by
  rw [Bool.eq_iff_iff]
  simp [bne]

set_option maxHeartbeats 400000 in
theorem stays_any (K r : Nat) (x y : Int) (kd : Int) (d : ByteArray) (w : World) (h : Two K r x y w) :
    Calls Try.prog 25 #[.agg #[.int .i64 kd, .string d], .pointer (some ⟨K, 0, none⟩)] w fun e w' => e = .returned (.bool (kd != x && kd != y)) ∧ Below w.heap.size w w' := by
  have h1 := h.box
  have hK := h.ltK
  have Hc : Hid (∀ j, j < ([x, y] : List Int).length → (w.alloc (.cells #[.int .i64 kd, .string d] 33)).cell? ⟨r, 0 + j, none⟩ = some (.int .i64 (([x, y] : List Int).getD j 0))) := by
    refine Lib.hid fun j hj => ?_
    rw [((Below.refl w.heap.size w).alloc (Nat.le_refl _) _).cell (p := ⟨r, 0 + j, none⟩) h.ltr]
    match j, hj with
    | 0, _ => exact h.fst
    | 1, _ => exact h.snd
  have Ht := Lib.hid (two_contains x y kd)
  clear h
  generalize (kd != x && kd != y) = q at *
  generalize hl : ([x, y] : List Int) = zs at *
  have Hl := Lib.hid hl
  clear hl
  go_enter Try.func25, Try.ntmps25
  go_wp2_with fail
  refine (Try.slices_Contains_int r 0 2 2 zs kd _ (by rw [← Hl.out]; simp) (by omega) Hc.out).mono ?_
  rintro e w1 ⟨rfl, rfl⟩
  rw [Ht.out]
  go_wp2
  go_ret
  exact ⟨ret_bool (by simp), (Below.refl _ _).alloc (Nat.le_refl _) _⟩

set_option maxHeartbeats 2000000 in
theorem keep_any (a : Option Addr) (cap : Nat) (l : List Opt) (K r : Nat) (x y : Int) (w : World) (h : OptRow w a l) (hl : l.length ≤ 60) (h2 : Two K r x y w) :
    Calls Try.prog 24 #[.slice a l.length cap, .func (.func 25) #[] #[.pointer (some ⟨K, 0, none⟩)]] w fun e w' =>
      ∃ ao cp, e = .returned (.slice ao (O.others x y l).length cp) ∧ OptBuf w.heap.size ao cp (O.others x y l) w' ∧ Below w.heap.size w w' := by
  have Hrow := Lib.hid h
  have Htwo := Lib.hid h2
  clear h h2
  go_enter Try.func24, Try.ntmps24
  go_wp2
  go_loopw [5, 10] (fun s i wr => ∃ (k : Nat) (ao : Option Addr) (cp : Nat), k ≤ l.length ∧ i = .int .i64 k ∧ s = .slice ao (O.others x y (l.take k)).length cp ∧ OptBuf w.heap.size ao cp (O.others x y (l.take k)) wr ∧ Below w.heap.size w wr) (fun _ i _ => l.length - (intOf i).toNat)
  case atStart => exact ⟨0, none, 0, Nat.zero_le _, rfl, rfl, OptBuf.nil _ _, Below.refl _ _⟩
  case round =>
    obtain ⟨k, ao, cp, hk, rfl, rfl, hbuf, hb⟩ := hrel
    have hbs := hb.size
    by_cases hlt : k < l.length
    · obtain ⟨b, off, rfl, hbl, c0, c1⟩ := Hrow.out.then hb k hlt
      have Ho := Lib.hid (O.others_take x y l k hlt)
      have hol := O.others_len x y (l.take k)
      have htl : (l.take k).length ≤ k := List.length_take_le _ _
      generalize l.getD k noOpt = o at *
      generalize O.others x y (l.take k) = m at *
      obtain ⟨kd, d⟩ := o
      simp only at c0 c1
      have hb1 : Below w.heap.size w (wr.alloc (.cells #[.int .i64 kd, .string d] 33)) := hb.alloc hbs _
      go_wp2_with fail
      refine (stays_any K r x y kd d _ (Htwo.out.carry hb1)).mono ?_
      rintro e w2 ⟨rfl, hb2⟩
      have hbw := hb1.trans (hb2.mono hb1.size)
      have hbuf2 := (hbuf.alloc (.cells #[.int .i64 kd, .string d] 33)).carry hb2
      have e0 : w2.cell? ⟨wr.heap.size, 0, none⟩ = some (.int .i64 kd) := (hb2.cell (p := ⟨wr.heap.size, 0, none⟩) (by simp)).trans (by simp)
      have e1 : w2.cell? ⟨wr.heap.size, 1, none⟩ = some (.string d) := (hb2.cell (p := ⟨wr.heap.size, 1, none⟩) (by simp)).trans (by simp)
      have hws : wr.heap.size < w2.heap.size := by have := hb2.size; simp at this; omega
      clear hb1 hb2 c0 c1 hbuf hb
      cases hq : (kd != x && kd != y) with
      | true =>
        have Hq := Lib.hid hq
        clear hq
        obtain ⟨ao', cp', w3, hrun, hbuf3, hg⟩ := append_opt w.heap.size ao cp m (w2.alloc (.cells #[.int .i64 kd, .string d] 33)) (hbuf2.alloc _) kd d w2.heap.size (by simp) (by simp) 22 (by omega) (by simp; omega)
        have hb3 : Below w.heap.size w w3 := (hbw.alloc (by omega) _).grown hg (by simp; omega) (fun j hj => (hbuf2.lt j hj).1)
        have Hrun := Lib.hid hrun
        clear hbw hg hbuf2 hrun
        go_wp2_with (at_builtin; refine wpList_append_run rfl _ _ _ _ rfl _ _ rfl rfl _ _ Hrun.out ?_)
        go_roundw
        case rel => exact ⟨k + 1, ao', cp', by omega, by go_num, by rw [Ho.out, Hq.out]; simp, by rw [Ho.out, Hq.out]; simpa using hbuf3, hb3⟩
        case measure => simp [intOf]; omega
      | false =>
        have Hq := Lib.hid hq
        clear hq
        go_wp2
        go_roundw
        case rel => exact ⟨k + 1, ao, cp, by omega, by go_num, by rw [Ho.out, Hq.out]; simp, by rw [Ho.out, Hq.out]; simpa using hbuf2, hbw⟩
        case measure => simp [intOf]; omega
    · have e : l.take k = l := List.take_of_length_le (by omega)
      rw [e] at hbuf ⊢
      clear e
      go_wp2
      go_ret
      exact ⟨ao, cp, rfl, hbuf, hb⟩

set_option maxHeartbeats 1000000 in
theorem without_any (a : Option Addr) (cap : Nat) (l : List Opt) (r : Nat) (x y : Int) (w : World) (h : OptRow w a l) (hl : l.length ≤ 60) (h0 : w.cell? ⟨r, 0, none⟩ = some (.int .i64 x)) (h1 : w.cell? ⟨r, 1, none⟩ = some (.int .i64 y)) (hr : r < w.heap.size) :
    Calls Try.prog 15 #[.slice a l.length cap, .slice (some ⟨r, 0, none⟩) 2 2] w fun e w' =>
      ∃ ao cp, e = .returned (.slice ao (O.others x y l).length cp) ∧ OptRow w' ao (O.others x y l) ∧ Below w.heap.size w w' := by
  have Hrow := Lib.hid h
  have hb0 : Below w.heap.size w (w.alloc (.cells #[.slice (some ⟨r, 0, none⟩) 2 2] 51)) := (Below.refl _ _).alloc (Nat.le_refl _) _
  have Htwo : Hid (Two w.heap.size r x y (w.alloc (.cells #[.slice (some ⟨r, 0, none⟩) 2 2] 51))) :=
    Lib.hid ⟨by simp, (hb0.cell (p := ⟨r, 0, none⟩) hr).trans h0, (hb0.cell (p := ⟨r, 1, none⟩) hr).trans h1, by simp, by simp; omega⟩
  clear h h0 h1
  go_enter Try.func15, Try.ntmps15
  go_wp2_with fail
  refine (keep_any a cap l w.heap.size r x y _ (Hrow.out.carry hb0) hl Htwo.out).mono ?_
  rintro e w1 ⟨ao, cp, rfl, hbuf, hb1⟩
  have hrow1 := hbuf.row
  have hb : Below w.heap.size w w1 := hb0.trans (hb1.mono (by simp))
  clear hbuf hb1 hb0 Htwo
  go_wp2
  go_ret
  exact ⟨ao, cp, rfl, hrow1, hb⟩
#print axioms without_any
end Go.Proofs.Ytncnildpbccpaaa
