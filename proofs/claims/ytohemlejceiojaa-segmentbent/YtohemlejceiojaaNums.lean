/- The walks of what a writer is handed one by one: bytes, shorts, words; and what it says at the end. -/
import Derived.Test.YtohemlejceiojaaWrites
namespace Go.Proofs.Ytohemlejceiojaa
open Go.RowKit

/-- A writer behind a mistake. -/
structure Bad (base b : Nat) (w : World) : Prop where
  low : base ≤ b
  cells : w.heap[b]? = some (.cells #[.bool true, .slice none 0 0] 43 (0, 0))

/-- A writer: what it has written, or that it has failed. -/
def After (base b : Nat) (o : Option (List UInt8)) (w : World) : Prop :=
  match o with
  | none => Bad base b w
  | some l => Wr base b l w ∧ l.length ≤ 65536

theorem addTo_le (l s : List UInt8) (h : l.length ≤ 65536) : (addTo l s).length ≤ 65536 := by
  unfold addTo; rw [List.length_append, List.length_take]; omega

theorem pair_set0 {w : World} {b : Nat} {x y u : Value} {t : TypeId} (h : w.heap[b]? = some (.cells #[x, y] t (0, 0))) : (w.setCell ⟨b, 0, none⟩ u).heap[b]? = some (.cells #[u, y] t (0, 0)) := by
  have hlt := lt_of_block h
  have h' : w.heap[b] = .cells #[x, y] t (0, 0) := by simpa [Array.getElem?_eq_getElem hlt] using h
  show (w.heap.modify b _)[b]? = _
  rw [Array.getElem?_eq_getElem (by simpa using hlt), Array.getElem_modify_self, h']
  rfl

theorem pair_set1 {w : World} {b : Nat} {x y u : Value} {t : TypeId} (h : w.heap[b]? = some (.cells #[x, y] t (0, 0))) : (w.setCell ⟨b, 1, none⟩ u).heap[b]? = some (.cells #[x, u] t (0, 0)) := by
  have hlt := lt_of_block h
  have h' : w.heap[b] = .cells #[x, y] t (0, 0) := by simpa [Array.getElem?_eq_getElem hlt] using h
  show (w.heap.modify b _)[b]? = _
  rw [Array.getElem?_eq_getElem (by simpa using hlt), Array.getElem_modify_self, h']
  rfl

theorem Wr.fail {base b : Nat} {l : List UInt8} {w : World} (h : Wr base b l w) : Bad base b ((w.setCell ⟨b, 0, none⟩ (.bool true)).setCell ⟨b, 1, none⟩ (.slice none 0 0)) := by
  obtain ⟨hlow, ao, cap, hcell, _⟩ := h
  exact ⟨hlow, pair_set1 (pair_set0 hcell)⟩

theorem Kp.set2 {base b : Nat} {w : World} (hlow : base ≤ b) (u v : Value) : Kp base b w ((w.setCell ⟨b, 0, none⟩ u).setCell ⟨b, 1, none⟩ v) :=
  ⟨((Below.refl _ _).setCell hlow _).setCell hlow _, fun k _ _ h h1 _ => by rw [Below.heap_setCell _ _ _ _ h1, Below.heap_setCell _ _ _ _ h1]; exact h⟩

/-- Numbers of a kind, written one by one: what there is then, or a mistake. -/
def puts (be : Nat → List UInt8) (most : Int) : List UInt8 → List Int → Option (List UInt8)
  | l, [] => some l
  | l, n :: r => if 0 ≤ n ∧ n ≤ most then puts be most (addTo l (be n.toNat)) r else none

def be1 (n : Nat) : List UInt8 := [UInt8.ofNat n]
def be2 (n : Nat) : List UInt8 := [UInt8.ofNat (n / 256), UInt8.ofNat n]

theorem puts_in (be : Nat → List UInt8) (most : Int) (l : List UInt8) (zs : List Int) (k : Nat) (hk : k < zs.length) (h : 0 ≤ zs.getD k 0 ∧ zs.getD k 0 ≤ most) :
    puts be most l (zs.drop k) = puts be most (addTo l (be (zs.getD k 0).toNat)) (zs.drop (k + 1)) := by
  have e : zs.drop k = zs[k] :: zs.drop (k + 1) := List.drop_eq_getElem_cons hk
  have g : zs.getD k 0 = zs[k] := by rw [List.getD_eq_getElem?_getD, List.getElem?_eq_getElem hk]; rfl
  rw [e, g]
  rw [g] at h
  simp only [puts]
  rw [if_pos h]

theorem puts_out (be : Nat → List UInt8) (most : Int) (l : List UInt8) (zs : List Int) (k : Nat) (hk : k < zs.length) (h : ¬ (0 ≤ zs.getD k 0 ∧ zs.getD k 0 ≤ most)) :
    puts be most l (zs.drop k) = none := by
  have e : zs.drop k = zs[k] :: zs.drop (k + 1) := List.drop_eq_getElem_cons hk
  have g : zs.getD k 0 = zs[k] := by rw [List.getD_eq_getElem?_getD, List.getElem?_eq_getElem hk]; rfl
  rw [e]
  rw [g] at h
  simp only [puts]
  rw [if_neg h]

/-- Numbers in a row of their own. -/
def IntRow (zs : List Int) (r : Nat) (w : World) : Prop := ∃ cs : Array Value, w.heap[r]? = some (.cells cs 3 (0, 0)) ∧ ∀ i, i < zs.length → cs[i]? = some (.int .i64 (zs.getD i 0))

theorem IntRow.at {zs : List Int} {r base b : Nat} {w w' : World} (h : IntRow zs r w) (hk : Kp base b w w') (hr : r ≠ b) (i : Nat) (hi : i < zs.length) : w'.cell? ⟨r, i, none⟩ = some (.int .i64 (zs.getD i 0)) := by
  obtain ⟨cs, h1, h2⟩ := h
  have h3 := hk.spare r cs _ h1 hr (by decide)
  simp only [World.cell?, h3]
  exact h2 i hi

theorem Wr.cell0 {base b : Nat} {l : List UInt8} {w : World} (h : Wr base b l w) : w.cell? ⟨b, 0, none⟩ = some (.bool false) ∧ w.frozen? ⟨b, 0, none⟩ = false ∧ w.frozen? ⟨b, 1, none⟩ = false ∧ ∃ ao cap, w.cell? ⟨b, 1, none⟩ = some (.slice ao l.length cap) := by
  obtain ⟨_, ao, cap, hcell, _⟩ := h
  exact ⟨by simp [World.cell?, hcell], by simp [World.frozen?, hcell], by simp [World.frozen?, hcell], ao, cap, by simp [World.cell?, hcell]⟩

set_option maxHeartbeats 2000000 in
theorem numbers_1 (base b r cap : Nat) (l : List UInt8) (zs : List Int) (w : World) (h : Wr base b l w) (hl : l.length ≤ 65536) (hrow : IntRow zs r w) (hr : r ≠ b) (hzs : zs.length ≤ 1000) :
    Calls Try.prog 26 #[.pointer (some ⟨b, 0, none⟩), .int .i64 1, .int .i64 255, .slice (some ⟨r, 0, none⟩) zs.length cap] w fun e w' =>
      e = .returned (.pointer (some ⟨b, 0, none⟩)) ∧ After base b (puts be1 255 l zs) w' ∧ Kp base b w w' := by
  obtain ⟨c0, f0, f1, ao, cp, c1⟩ := h.cell0
  have Hrow := Lib.hid hrow
  clear hrow
  go_enter Try.func26, Try.ntmps26
  go_wp2
  clear c0 f0 f1 c1
  go_loopw [23] (fun i wr => ∃ (k : Nat) (m : List UInt8), k ≤ zs.length ∧ i = .int .i64 k ∧ Wr base b m wr ∧ m.length ≤ 65536 ∧ puts be1 255 l zs = puts be1 255 m (zs.drop k) ∧ Kp base b w wr)
    (fun i _ => zs.length - (intOf i).toNat)
  case atStart => exact ⟨0, l, Nat.zero_le _, rfl, h, hl, by rw [List.drop_zero], Kp.refl _ _ _⟩
  case round =>
    obtain ⟨k, m, hk, rfl, hwr, hm, hp, hkp⟩ := hrel
    have Hp := Lib.hid hp
    clear hp
    by_cases hlt : k < zs.length
    · have hc := Hrow.out.at hkp hr k hlt
      by_cases hin : 0 ≤ zs.getD k 0 ∧ zs.getD k 0 ≤ 255
      · have Hq := Lib.hid (puts_in be1 255 m zs k hlt hin)
        obtain ⟨n, hn⟩ := Int.eq_ofNat_of_zero_le hin.1
        rw [hn] at hc hin
        have Hn := Lib.hid hn
        clear hn
        have hn1 : n ≤ 255 := by omega
        clear hin
        go_wp2_with fail
        refine (number_1 base b m n _ hwr hm (by omega)).mono ?_
        rintro e w2 ⟨rfl, hw2, hk2⟩
        go_wp2
        go_roundw
        case rel => exact ⟨k + 1, addTo m (be1 n), by omega, by go_num, hw2, addTo_le _ _ hm, by rw [Hp.out, Hq.out, Hn.out]; rfl, hkp.trans hk2⟩
        case measure => simp [intOf]; omega
      · have Hq := Lib.hid (puts_out be1 255 m zs k hlt hin)
        obtain ⟨d0, g0, g1, ao, cp, d1⟩ := hwr.cell0
        generalize hz : zs.getD k 0 = z at *
        have Hz := Lib.hid hz
        clear hz
        by_cases hneg : z < 0
        · clear hin
          go_wp2
          all_goals first
            | go_end0
            | skip
          go_wp2
          go_ret
          exact ⟨rfl, by rw [Hp.out, Hq.out]; exact hwr.fail, hkp.trans (Kp.set2 hwr.low _ _)⟩
        · have hbig : 255 < z := by omega
          clear hin
          go_wp2
          all_goals first
            | go_end0
            | skip
          go_wp2
          go_ret
          exact ⟨rfl, by rw [Hp.out, Hq.out]; exact hwr.fail, hkp.trans (Kp.set2 hwr.low _ _)⟩
    · have hd : zs.drop k = [] := List.drop_eq_nil_of_le (by omega)
      have Hd := Lib.hid hd
      clear hd
      go_wp2
      go_ret
      exact ⟨rfl, by rw [Hp.out, Hd.out]; exact ⟨hwr, hm⟩, hkp⟩

set_option maxHeartbeats 400000 in
theorem numbers_1_bad (base b : Nat) (v : Value) (w : World) (h : Bad base b w) :
    Calls Try.prog 26 #[.pointer (some ⟨b, 0, none⟩), .int .i64 1, .int .i64 255, v] w fun e w' => e = .returned (.pointer (some ⟨b, 0, none⟩)) ∧ w = w' := by
  have c0 : w.cell? ⟨b, 0, none⟩ = some (.bool true) := by simp [World.cell?, h.cells]
  go_enter Try.func26, Try.ntmps26
  go_wp2
  go_ret
  exact ⟨rfl, rfl⟩

set_option maxHeartbeats 400000 in
theorem numbers_1_nil (v : Value) (w : World) :
    Calls Try.prog 26 #[.pointer none, .int .i64 1, .int .i64 255, v] w fun e w' => e = .returned (.pointer none) ∧ w = w' := by
  go_enter Try.func26, Try.ntmps26
  go_wp2
  go_ret
  exact ⟨rfl, rfl⟩

set_option maxHeartbeats 2000000 in
theorem numbers_2 (base b r cap : Nat) (l : List UInt8) (zs : List Int) (w : World) (h : Wr base b l w) (hl : l.length ≤ 65536) (hrow : IntRow zs r w) (hr : r ≠ b) (hzs : zs.length ≤ 1000) :
    Calls Try.prog 26 #[.pointer (some ⟨b, 0, none⟩), .int .i64 2, .int .i64 65535, .slice (some ⟨r, 0, none⟩) zs.length cap] w fun e w' =>
      e = .returned (.pointer (some ⟨b, 0, none⟩)) ∧ After base b (puts be2 65535 l zs) w' ∧ Kp base b w w' := by
  obtain ⟨c0, f0, f1, ao, cp, c1⟩ := h.cell0
  have Hrow := Lib.hid hrow
  clear hrow
  go_enter Try.func26, Try.ntmps26
  go_wp2
  clear c0 f0 f1 c1
  go_loopw [23] (fun i wr => ∃ (k : Nat) (m : List UInt8), k ≤ zs.length ∧ i = .int .i64 k ∧ Wr base b m wr ∧ m.length ≤ 65536 ∧ puts be2 65535 l zs = puts be2 65535 m (zs.drop k) ∧ Kp base b w wr)
    (fun i _ => zs.length - (intOf i).toNat)
  case atStart => exact ⟨0, l, Nat.zero_le _, rfl, h, hl, by rw [List.drop_zero], Kp.refl _ _ _⟩
  case round =>
    obtain ⟨k, m, hk, rfl, hwr, hm, hp, hkp⟩ := hrel
    have Hp := Lib.hid hp
    clear hp
    by_cases hlt : k < zs.length
    · have hc := Hrow.out.at hkp hr k hlt
      by_cases hin : 0 ≤ zs.getD k 0 ∧ zs.getD k 0 ≤ 65535
      · have Hq := Lib.hid (puts_in be2 65535 m zs k hlt hin)
        obtain ⟨n, hn⟩ := Int.eq_ofNat_of_zero_le hin.1
        rw [hn] at hc hin
        have Hn := Lib.hid hn
        clear hn
        have hn1 : n ≤ 65535 := by omega
        clear hin
        go_wp2_with fail
        refine (number_2 base b m n _ hwr hm (by omega)).mono ?_
        rintro e w2 ⟨rfl, hw2, hk2⟩
        go_wp2
        go_roundw
        case rel => exact ⟨k + 1, addTo m (be2 n), by omega, by go_num, hw2, addTo_le _ _ hm, by rw [Hp.out, Hq.out, Hn.out]; rfl, hkp.trans hk2⟩
        case measure => simp [intOf]; omega
      · have Hq := Lib.hid (puts_out be2 65535 m zs k hlt hin)
        obtain ⟨d0, g0, g1, ao, cp, d1⟩ := hwr.cell0
        generalize hz : zs.getD k 0 = z at *
        have Hz := Lib.hid hz
        clear hz
        by_cases hneg : z < 0
        · clear hin
          go_wp2
          all_goals first
            | go_end0
            | skip
          go_wp2
          go_ret
          exact ⟨rfl, by rw [Hp.out, Hq.out]; exact hwr.fail, hkp.trans (Kp.set2 hwr.low _ _)⟩
        · have hbig : 65535 < z := by omega
          clear hin
          go_wp2
          all_goals first
            | go_end0
            | skip
          go_wp2
          go_ret
          exact ⟨rfl, by rw [Hp.out, Hq.out]; exact hwr.fail, hkp.trans (Kp.set2 hwr.low _ _)⟩
    · have hd : zs.drop k = [] := List.drop_eq_nil_of_le (by omega)
      have Hd := Lib.hid hd
      clear hd
      go_wp2
      go_ret
      exact ⟨rfl, by rw [Hp.out, Hd.out]; exact ⟨hwr, hm⟩, hkp⟩

set_option maxHeartbeats 400000 in
theorem numbers_2_bad (base b : Nat) (v : Value) (w : World) (h : Bad base b w) :
    Calls Try.prog 26 #[.pointer (some ⟨b, 0, none⟩), .int .i64 2, .int .i64 65535, v] w fun e w' => e = .returned (.pointer (some ⟨b, 0, none⟩)) ∧ w = w' := by
  have c0 : w.cell? ⟨b, 0, none⟩ = some (.bool true) := by simp [World.cell?, h.cells]
  go_enter Try.func26, Try.ntmps26
  go_wp2
  go_ret
  exact ⟨rfl, rfl⟩

set_option maxHeartbeats 400000 in
theorem numbers_2_nil (v : Value) (w : World) :
    Calls Try.prog 26 #[.pointer none, .int .i64 2, .int .i64 65535, v] w fun e w' => e = .returned (.pointer none) ∧ w = w' := by
  go_enter Try.func26, Try.ntmps26
  go_wp2
  go_ret
  exact ⟨rfl, rfl⟩

set_option maxHeartbeats 400000 in
theorem Byte_any (base b r cap : Nat) (l : List UInt8) (zs : List Int) (w : World) (h : Wr base b l w) (hl : l.length ≤ 65536) (hrow : IntRow zs r w) (hr : r ≠ b) (hzs : zs.length ≤ 1000) :
    Calls Try.prog 28 #[.pointer (some ⟨b, 0, none⟩), .slice (some ⟨r, 0, none⟩) zs.length cap] w fun e w' =>
      e = .returned (.pointer (some ⟨b, 0, none⟩)) ∧ After base b (puts be1 255 l zs) w' ∧ Kp base b w w' := by
  have H := Lib.hid (numbers_1 base b r cap l zs w h hl hrow hr hzs)
  clear h hrow
  go_enter Try.func28, Try.ntmps28
  go_wp2_with fail
  refine H.out.mono ?_
  rintro e w1 ⟨rfl, h1, h2⟩
  go_wp2
  go_ret
  exact ⟨rfl, h1, h2⟩

set_option maxHeartbeats 400000 in
theorem Byte_bad (base b : Nat) (v : Value) (w : World) (h : Bad base b w) :
    Calls Try.prog 28 #[.pointer (some ⟨b, 0, none⟩), v] w fun e w' => e = .returned (.pointer (some ⟨b, 0, none⟩)) ∧ w = w' := by
  go_enter Try.func28, Try.ntmps28
  go_wp2_with fail
  refine (numbers_1_bad base b v w h).mono ?_
  rintro e w1 ⟨rfl, rfl⟩
  go_wp2
  go_ret
  exact ⟨rfl, rfl⟩

set_option maxHeartbeats 400000 in
theorem Byte_nil (v : Value) (w : World) :
    Calls Try.prog 28 #[.pointer none, v] w fun e w' => e = .returned (.pointer none) ∧ w = w' := by
  go_enter Try.func28, Try.ntmps28
  go_wp2_with fail
  refine (numbers_1_nil v w).mono ?_
  rintro e w1 ⟨rfl, rfl⟩
  go_wp2
  go_ret
  exact ⟨rfl, rfl⟩

set_option maxHeartbeats 400000 in
theorem Short_any (base b r cap : Nat) (l : List UInt8) (zs : List Int) (w : World) (h : Wr base b l w) (hl : l.length ≤ 65536) (hrow : IntRow zs r w) (hr : r ≠ b) (hzs : zs.length ≤ 1000) :
    Calls Try.prog 13 #[.pointer (some ⟨b, 0, none⟩), .slice (some ⟨r, 0, none⟩) zs.length cap] w fun e w' =>
      e = .returned (.pointer (some ⟨b, 0, none⟩)) ∧ After base b (puts be2 65535 l zs) w' ∧ Kp base b w w' := by
  have H := Lib.hid (numbers_2 base b r cap l zs w h hl hrow hr hzs)
  clear h hrow
  go_enter Try.func13, Try.ntmps13
  go_wp2_with fail
  refine H.out.mono ?_
  rintro e w1 ⟨rfl, h1, h2⟩
  go_wp2
  go_ret
  exact ⟨rfl, h1, h2⟩

set_option maxHeartbeats 400000 in
theorem Short_bad (base b : Nat) (v : Value) (w : World) (h : Bad base b w) :
    Calls Try.prog 13 #[.pointer (some ⟨b, 0, none⟩), v] w fun e w' => e = .returned (.pointer (some ⟨b, 0, none⟩)) ∧ w = w' := by
  go_enter Try.func13, Try.ntmps13
  go_wp2_with fail
  refine (numbers_2_bad base b v w h).mono ?_
  rintro e w1 ⟨rfl, rfl⟩
  go_wp2
  go_ret
  exact ⟨rfl, rfl⟩

set_option maxHeartbeats 400000 in
theorem Short_nil (v : Value) (w : World) :
    Calls Try.prog 13 #[.pointer none, v] w fun e w' => e = .returned (.pointer none) ∧ w = w' := by
  go_enter Try.func13, Try.ntmps13
  go_wp2_with fail
  refine (numbers_2_nil v w).mono ?_
  rintro e w1 ⟨rfl, rfl⟩
  go_wp2
  go_ret
  exact ⟨rfl, rfl⟩

#print axioms numbers_2
end Go.Proofs.Ytohemlejceiojaa
