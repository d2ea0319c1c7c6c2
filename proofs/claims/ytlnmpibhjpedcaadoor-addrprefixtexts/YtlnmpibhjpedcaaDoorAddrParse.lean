/- The walk of an address that is told. -/
import Derived.Test.YtlnmpibhjpedcaaDoorAddrNum
import Derived.Lib.Split
namespace Go.Proofs.YtlnmpibhjpedcaaDoor
open Go.RowKit

/-- Numbers, the highest first. -/
def A.fold : List ByteArray → Nat → Option Nat
  | [], a => some a
  | x :: r, a => match A.num 255 x with | none => none | some n => A.fold r (a * 256 + n)
def A.parts (s : ByteArray) : List ByteArray := Lib.splitB ⟨#[46]⟩ 0 (min 5 (s.size + 1) - 1) s
def A.parse (s : ByteArray) : Option Nat := if (A.parts s).length = 4 then A.fold (A.parts s) 0 else none
def A.parseIs (s : ByteArray) : Array Value := match A.parse s with | some n => #[.int .u32 n, .bool true] | none => #[.int .u32 0, .bool false]

theorem A.num_le {most : Nat} {s : ByteArray} {n : Nat} (h : A.num most s = some n) : n ≤ most := by
  unfold A.num at h
  split at h
  · split at h
    · cases h; omega
    · cases h
  · cases h

theorem split_size (sep : ByteArray) : ∀ (k : Nat) (s : ByteArray) (x : ByteArray), x ∈ Lib.splitB sep 0 k s → x.size ≤ s.size
  | 0, s, x, h => by simp [Lib.splitB] at h; subst h; exact Nat.le_refl _
  | k + 1, s, x, h => by
    unfold Lib.splitB at h
    split at h
    · simp at h; subst h; exact Nat.le_refl _
    · rcases List.mem_cons.1 h with rfl | h
      · rw [ByteArray.size_extract]; omega
      · have := split_size sep k _ x h
        rw [ByteArray.size_extract] at this
        omega

theorem A.parts_size (s x : ByteArray) (h : x ∈ A.parts s) : x.size ≤ s.size := split_size _ _ _ _ h

theorem cells_at (l : List ByteArray) (N j : Nat) (x : ByteArray) (h : l[j]? = some x) : (Lib.cellsOf l N)[j]? = some (.string x) := by
  have hj : j < l.length := by
    rcases Nat.lt_or_ge j l.length with h1 | h1
    · exact h1
    · rw [List.getElem?_eq_none h1] at h; cases h
  unfold Lib.cellsOf
  rw [List.getElem?_toArray, List.getElem?_append_left (by simpa using hj), List.getElem?_map, h]
  rfl

theorem or_low (a n : Nat) (hn : n < 256) : (a * 256) ||| n = a * 256 + n := by
  have := Nat.two_pow_add_eq_or_of_lt (i := 8) (b := n) (by omega) a
  rw [show a * 256 = 2 ^ 8 * a by omega]
  exact this.symm

theorem or_u32 (a n : Nat) (ha : a < 16777216) (hn : n < 256) : bits BinOp.or IntKind.u32 ((a * 256 : Nat) : Int) (n : Int) = ((a * 256 + n : Nat) : Int) := by
  rw [(bits_nat .u32 32 (by decide) (fun m h0 h1 => IntWalk.u32_in m (by omega)) (a * 256) n (by omega) (by omega)).2, or_low a n hn]

theorem or_i32 (a n : Nat) (ha : a < 16777216) (hn : n < 256) : bits BinOp.or IntKind.u32 ((a : Int) * 256) (n : Int) = (a : Int) * 256 + (n : Int) := by
  have h := or_u32 a n ha hn
  rw [Int.natCast_add, Int.natCast_mul] at h
  exact h

theorem fold_step (l : List ByteArray) (k a : Nat) (x : ByteArray) (h : l[k]? = some x) : A.fold (l.drop k) a = match A.num 255 x with | none => none | some n => A.fold (l.drop (k + 1)) (a * 256 + n) := by
  have hk : k < l.length := by
    rcases Nat.lt_or_ge k l.length with h1 | h1
    · exact h1
    · rw [List.getElem?_eq_none h1] at h; cases h
  rw [List.drop_eq_getElem_cons hk]
  rw [List.getElem?_eq_getElem hk] at h
  cases h
  rfl

set_option maxHeartbeats 400000 in
theorem parse_any (s : ByteArray) (w : World) (hl : s.size < 4294967281) (L : Laid w) :
    Calls Tryd.prog 9 #[.string s] w fun e w' => e = .returned (.tuple (A.parseIs s)) ∧ Below w.heap.size w w' := by
  obtain ⟨m, hm⟩ := L.most
  have HL := Lib.hid L
  have Hl := Lib.hid hl
  clear L
  by_cases h4 : (A.parts s).length = 4
  · have hp : A.parse s = A.fold (A.parts s) 0 := by unfold A.parse; rw [if_pos h4]
    have Hp := Lib.hid hp
    clear hp
    have Hz := Lib.hid (A.parts_size s)
    have Hc : ∀ j x, (A.parts s)[j]? = some x → (w.alloc (.cells (Lib.cellsOf (A.parts s) (min 5 (s.size + 1))) 9)).cell? ⟨w.heap.size, j, none⟩ = some (.string x) := by
      intro j x hx
      have := cells_at (A.parts s) (min 5 (s.size + 1)) j x hx
      simp [this]
    have kA : Below w.heap.size w (w.alloc (.cells (Lib.cellsOf (A.parts s) (min 5 (s.size + 1))) 9)) := (Below.refl _ _).alloc (Nat.le_refl _) _
    have zA : w.heap.size < (w.alloc (.cells (Lib.cellsOf (A.parts s) (min 5 (s.size + 1))) 9)).heap.size := by simp
    have Hs : Lib.splitB ⟨#[46]⟩ 0 (min 5 (s.size + 1) - 1) s = A.parts s := rfl
    go_enter Tryd.func9, Tryd.ntmps9
    go_wp2_with fail
    refine (Tryd.strings_SplitN s ⟨#[46]⟩ 5 m w hl hm (by decide) (by decide) (by decide)).mono ?_
    rintro e w1 ⟨rfl, hw1⟩
    rw [Hs] at hw1 ⊢
    rw [← hw1] at Hc kA zA
    clear hw1 Hs
    generalize A.parts s = ps at *
    rw [h4]
    generalize min 5 (s.size + 1) = cap at *
    have Hc' := Lib.hid Hc
    have kA' := Lib.hid kA
    have H4 := Lib.hid h4
    have hm' := Lib.hid hm
    clear Hc kA h4 hm hl
    go_wp2
    go_loopw [5, 17] (fun a i wr => ∃ k av : Nat, k ≤ 4 ∧ i = .int .i64 k ∧ a = .int .u32 av ∧ av < 256 ^ k ∧ A.fold ps 0 = A.fold (ps.drop k) av ∧ Below w.heap.size w wr ∧ Below (w.heap.size + 1) w1 wr) (fun _ i _ => 4 - (intOf i).toNat)
    case atStart => exact ⟨0, 0, by decide, rfl, rfl, by decide, by rw [List.drop_zero], kA'.out, Below.refl _ _⟩
    case round =>
      obtain ⟨k, av, hk, rfl, rfl, hav, hf, hb, hb1⟩ := hrel
      by_cases hlt : k < 4
      · obtain ⟨x, hx⟩ : ∃ x, ps[k]? = some x := ⟨_, List.getElem?_eq_getElem (by rw [H4.out]; exact hlt)⟩
        have hin : x ∈ ps := List.mem_of_getElem? hx
        have hc : wr.cell? ⟨w.heap.size, k, none⟩ = some (.string x) := by rw [hb1.cell (p := ⟨w.heap.size, k, none⟩) (Nat.lt_succ_self _)]; exact Hc'.out k x hx
        have hxs := Hz.out x hin
        have hst := fold_step ps k av x hx
        have Hst := Lib.hid (hf.trans hst)
        have Lr := Lib.hid (HL.out.below HL.out.size hb hb.size)
        have p3 : 256 ^ k ≤ 16777216 := by
          have : (256 : Nat) ^ k ≤ 256 ^ 3 := Nat.pow_le_pow_right (by decide) (by omega)
          simpa using this
        have Hav := Lib.hid hav
        have ha24 : av < 16777216 := by omega
        have hxl : x.size ≤ 281474976710656 := by have := Hl.out; omega
        have Hb := Lib.hid hb
        have Hb1 := Lib.hid hb1
        clear hst hf hx hin hxs hb hb1 hav p3
        go_wp2_with fail
        refine (number_any x 255 wr hxl Lr.out (by decide)).mono ?_
        rintro e w3 ⟨rfl, hb3⟩
        cases hn : A.num 255 x with
        | none =>
          have e1 : A.numIs 255 x = #[.int .i64 0, .bool false] := by unfold A.numIs; rw [hn]
          have e2 : A.fold ps 0 = none := by rw [Hst.out, hn]
          have E0 := Lib.hid (show A.parseIs s = #[.int .u32 0, .bool false] by unfold A.parseIs; rw [Hp.out, e2])
          rw [e1]
          have K := Lib.hid (Hb.out.trans (hb3.mono Hb.out.size))
          clear e1 e2 hb3 hn
          go_wp2
          exact bodyPost_ret (v := .tuple #[.int .u32 0, .bool false]) (by simp [results, Tryd.results9, go_sem]) rfl ⟨by rw [E0.out], K.out⟩
        | some n =>
          have hn255 := A.num_le hn
          have e1 : A.numIs 255 x = #[.int .i64 n, .bool true] := by unfold A.numIs; rw [hn]
          have e2 : A.fold ps 0 = A.fold (ps.drop (k + 1)) (av * 256 + n) := by rw [Hst.out, hn]
          have E2 := Lib.hid e2
          rw [e1]
          have K := Lib.hid (Hb.out.trans (hb3.mono Hb.out.size))
          have K1 := Lib.hid (Hb1.out.trans (hb3.mono (by have := Hb1.out.size; omega)))
          have hor := or_i32 av n ha24 (by omega)
          have hav2 := Lib.hid (show av * 256 + n < 256 ^ (k + 1) by rw [Nat.pow_succ]; have := Hav.out; omega)
          clear e1 e2 hb3 hn
          go_wp2
          go_roundw
          case rel => exact ⟨k + 1, av * 256 + n, by omega, by go_num, by rw [show ((av * 256 + n : Nat) : Int) = (av : Int) * 256 + (n : Int) from by omega], hav2.out, E2.out, K.out, K1.out⟩
          case measure => simp [intOf]; omega
      · have hk4 : k = 4 := by omega
        subst hk4
        have e2 : A.fold ps 0 = some av := by rw [hf, List.drop_eq_nil_of_le (by rw [H4.out]; exact Nat.le_refl _)]; rfl
        have E0 := Lib.hid (show A.parseIs s = #[.int .u32 av, .bool true] by unfold A.parseIs; rw [Hp.out, e2])
        have Hb := Lib.hid hb
        clear e2 hf hb hb1 hav
        go_wp2
        exact bodyPost_ret (v := .tuple #[.int .u32 av, .bool true]) (by simp [results, Tryd.results9, go_sem]) rfl ⟨by rw [E0.out], Hb.out⟩
  · have e0 : A.parseIs s = #[.int .u32 0, .bool false] := by unfold A.parseIs A.parse; rw [if_neg h4]
    rw [e0]
    have kA : Below w.heap.size w (w.alloc (.cells (Lib.cellsOf (A.parts s) (min 5 (s.size + 1))) 9)) := (Below.refl _ _).alloc (Nat.le_refl _) _
    have Hs : Lib.splitB ⟨#[46]⟩ 0 (min 5 (s.size + 1) - 1) s = A.parts s := rfl
    go_enter Tryd.func9, Tryd.ntmps9
    go_wp2_with fail
    refine (Tryd.strings_SplitN s ⟨#[46]⟩ 5 m w hl hm (by decide) (by decide) (by decide)).mono ?_
    rintro e w1 ⟨rfl, hw1⟩
    rw [Hs] at hw1 ⊢
    rw [← hw1] at kA
    clear hw1 Hs e0
    generalize A.parts s = ps at *
    generalize min 5 (s.size + 1) = cap at *
    generalize ps.length = pl at *
    have h4' : ¬ (pl : Int) = 4 := by omega
    have kA' := Lib.hid kA
    clear kA hm hl
    go_wp2
    exact bodyPost_ret (v := .tuple #[.int .u32 0, .bool false]) (by simp [results, Tryd.results9, go_sem]) rfl ⟨rfl, kA'.out⟩
#print axioms parse_any
end Go.Proofs.YtlnmpibhjpedcaaDoor
