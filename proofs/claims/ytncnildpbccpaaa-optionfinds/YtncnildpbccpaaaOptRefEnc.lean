/- The walk of the document's own bytes of options. -/
import Derived.Test.YtncnildpbccpaaaOptList
import Derived.BigRegion
import Derived.IntWalk
namespace Go.Proofs.Ytncnildpbccpaaa
open Go.RowKit

def strSize : Value → Nat
  | .string b => b.size
  | _ => 0

/-- A byte in a row of its own, as a text. -/
theorem conv1 (W : World) (r : Nat) (n : Nat) (x : Int) (hx : x = ((UInt8.ofNat n).toNat : Int)) (h : W.cell? ⟨r, 0, none⟩ = some (.int .u8 x)) :
    (convert 42 9 (.slice (some ⟨r, 0, none⟩) 1 1)).run Try.prog W = .ok (.string ⟨#[UInt8.ofNat n]⟩) W := by
  have hcells : ∀ j (hj : j < ([UInt8.ofNat n]).length), W.cell? ((⟨r, 0, none⟩ : Addr).add j) = some (.int .u8 (([UInt8.ofNat n])[j].toNat : Int)) := by
    intro j hj
    match j, hj with
    | 0, _ => rw [Addr.add_lit]; show W.cell? ⟨r, 0, none⟩ = _; rw [h, hx]; rfl
  exact run_convert_bytes_back (P := Try.prog) W 42 9 5 ⟨r, 0, none⟩ 1 _ Try.underlying42 Try.underlying5 Try.underlying9 hcells

theorem byte_int (n : Nat) (h : n ≤ 255) : (n : Int) = ((UInt8.ofNat n).toNat : Int) := by rw [O.byte_eq n (by omega)]

theorem ret_string {a b : ByteArray} (h : a = b) : Ending.returned (.string a) = .returned (.string b) := by rw [h]

theorem bytes_ext {a b : ByteArray} (h : a.data.toList = b.data.toList) : a = b := by
  cases a; cases b; simp at h; simp [h]

theorem encRaw_take (l : List Opt) (k : Nat) (h : k < l.length) : O.encRaw (l.take (k + 1)) = O.encRaw (l.take k) ++ O.encOne (l.getD k noOpt) := by
  rw [getD_take l k h, O.encRaw_append]; simp [O.encRaw]

theorem right_small (l : List Opt) (h : l.all O.right = true) : ∀ o ∈ l, o.data.size ≤ 38 := by
  intro o ho
  have := List.all_eq_true.1 h o ho
  unfold O.right at this
  split at this
  · have := of_decide_eq_true this; omega
  · exact (of_decide_eq_true this).2.2

theorem right_kind (l : List Opt) (h : l.all O.right = true) : ∀ o ∈ l, ∃ k : Nat, o.kind = (k : Int) ∧ 1 ≤ k ∧ k ≤ 255 ∧ (k = 1 → o.data.size = 0) := by
  intro o ho
  have := List.all_eq_true.1 h o ho
  unfold O.right at this
  split at this
  · rename_i h1
    have := of_decide_eq_true this
    exact ⟨1, h1, by omega, by omega, fun _ => this⟩
  · rename_i h1
    have := of_decide_eq_true this
    obtain ⟨k, hk⟩ := Int.eq_ofNat_of_zero_le (show 0 ≤ o.kind by omega)
    exact ⟨k, hk, by omega, by omega, fun h => by omega⟩

set_option maxHeartbeats 1000000 in
theorem refEnc_any (a : Option Addr) (cap : Nat) (l : List Opt) (w : World) (h : OptRow w a l) (hl : l.length ≤ 60) (hr : l.all O.right = true) :
    Calls Try.prog 12 #[.slice a l.length cap] w fun e w' => e = .returned (.string ⟨(O.enc l).toArray⟩) ∧ Below w.heap.size w w' := by
  have Hrow := Lib.hid h
  have Hd := Lib.hid (right_small l hr)
  have Hk := Lib.hid (right_kind l hr)
  clear h hr
  obtain ⟨r, hr⟩ : ∃ r : ByteArray, (⟨(O.enc l).toArray⟩ : ByteArray) = r := ⟨_, rfl⟩
  have Hr := Lib.hid hr
  rw [hr]
  clear hr
  go_enter Try.func12, Try.ntmps12
  go_wp2
  go_loopw [3, 4] (fun s i wr => ∃ (k : Nat) (t : ByteArray), k ≤ l.length ∧ i = .int .i64 k ∧ s = .string t ∧ Hid (t.data.toList = O.encRaw (l.take k)) ∧ t.size ≤ 6120 ∧ Below w.heap.size w wr) (fun _ i _ => l.length - (intOf i).toNat)
  case atStart => exact ⟨0, ⟨#[]⟩, Nat.zero_le _, rfl, rfl, Lib.hid rfl, by show (0 : Nat) ≤ 6120; omega, Below.refl _ _⟩
  case round =>
    obtain ⟨k, t, hk, rfl, rfl, Ht, hts, hb⟩ := hrel
    by_cases hlt : k < l.length
    · obtain ⟨b, off, rfl, hbl, c0, c1⟩ := Hrow.out.then hb k hlt
      have hz := Hd.out _ (getD_mem l k hlt)
      obtain ⟨n, hn, n1, n255, hn1⟩ := Hk.out _ (getD_mem l k hlt)
      have Hq := Lib.hid (encRaw_take l k hlt)
      have Hqs : Hid ((O.encRaw (l.take (k + 1))).length ≤ 6120) := Lib.hid (by rw [O.encRaw_length]; exact raw_take_le l (k + 1) (by omega) (fun o ho => by have := Hd.out o ho; omega))
      generalize l.getD k noOpt = o at *
      obtain ⟨kd, d⟩ := o
      simp only at c0 c1 hz hn hn1
      subst hn
      have hbs := hb.size
      have hbw : b < wr.heap.size := by omega
      by_cases hk1 : n = 1
      · subst hk1
        have Hcv := conv1 (wr.alloc (.cells #[.int .u8 1] 5)) wr.heap.size 1 1 (byte_int 1 (by omega)) (by simp)
        go_wp2
        go_roundw
        case rel => exact ⟨k + 1, _, by omega, by go_num, rfl, Lib.hid (by rw [Hq.out, ← Ht.out]; simp [O.encOne]), by rw [ByteArray.size_append]; show t.size + 1 ≤ 6120; have := Hqs.out; rw [Hq.out, List.length_append, ← Ht.out, Array.length_toList] at this; exact this, hb.alloc hbs _⟩
        case measure => simp [intOf]; omega
      · have Hcv := conv1 (wr.alloc (.cells #[.int .u8 (n : Int)] 5)) wr.heap.size n n (byte_int n n255) (by simp)
        go_wp2
        have hb2 : Below w.heap.size w (wr.alloc (.cells #[.int .u8 (n : Int)] 5)) := hb.alloc hbs _
        have d0 : (wr.alloc (.cells #[.int .u8 (n : Int)] 5)).cell? ⟨b, off + k * 2, none⟩ = some (.int .i64 n) := (((Below.refl wr.heap.size wr).alloc (Nat.le_refl _) _).cell (p := ⟨b, off + k * 2, none⟩) hbw).trans c0
        have d1 : (wr.alloc (.cells #[.int .u8 (n : Int)] 5)).cell? ⟨b, off + k * 2 + 1, none⟩ = some (.string d) := (((Below.refl wr.heap.size wr).alloc (Nat.le_refl _) _).cell (p := ⟨b, off + k * 2 + 1, none⟩) hbw).trans c1
        have hbw2 : b < (wr.alloc (.cells #[.int .u8 (n : Int)] 5)).heap.size := by simp; omega
        clear Hcv c0 c1 hb hbs hbw
        generalize (wr.alloc (.cells #[.int .u8 (n : Int)] 5)) = w2 at *
        have hbs2 := hb2.size
        have Hcv := conv1 (w2.alloc (.cells #[.int .u8 (2 + (d.size : Int))] 5)).drew w2.heap.size (2 + d.size) (2 + (d.size : Int)) (by rw [← byte_int (2 + d.size) (by omega)]; omega) (by simp)
        have q1 : IntKind.i64.wrap (2 + (d.size : Int)) = 2 + (d.size : Int) := IntWalk.i64_in _ (by omega)
        have q2 : IntKind.u8.wrap (2 + (d.size : Int)) = 2 + (d.size : Int) := IntWalk.u8_in _ (by omega)
        have q3 : (k : Int) < (l.length : Int) := by omega
        have hk1' : ¬ (n : Int) = 1 := by omega
        go_region
        go_wp2
        go_roundw
        case rel => exact ⟨k + 1, _, by omega, by go_num, rfl, Lib.hid (by rw [Hq.out, ← Ht.out]; simp [O.encOne, hk1']), by have := Hqs.out; rw [Hq.out, List.length_append, ← Ht.out, Array.length_toList, O.encOne_length] at this; unfold O.sizeOne at this; rw [if_neg hk1'] at this; simp only [ByteArray.size_append]; show t.size + 1 + 1 + d.size ≤ 6120; have e0 : t.data.size = t.size := rfl; rw [e0] at this; simp only at this; omega, ((hb2.alloc hbs2 _).drew)⟩
        case measure => simp [intOf]; omega
    · have e : l.take k = l := List.take_of_length_le (by omega)
      rw [e] at Ht
      clear e
      have Hm := Lib.hid (pad_more (O.raw l))
      have Hn := Lib.hid (pad_done (O.raw l))
      have Hs := Lib.hid (show t.size = O.raw l by rw [← O.encRaw_length, ← Ht.out]; rfl)
      have hraw : O.raw l ≤ 6120 := by rw [← Hs.out]; exact hts
      have Hen := Lib.hid (show O.enc l = O.encRaw l ++ List.replicate (O.pad (O.raw l)) 0 from rfl)
      have hp := O.pad_le (O.raw l)
      generalize O.pad (O.raw l) = p at *
      generalize O.raw l = n at *
      go_wp2
      go_loop [3] (fun x => ∃ (j : Nat) (u : ByteArray), j ≤ p ∧ x = .string u ∧ Hid (u.size = n + j) ∧ Hid (u.data.toList = O.encRaw l ++ List.replicate j 0)) (fun x => n + p - strSize x)
      case atStart => exact ⟨0, t, Nat.zero_le _, rfl, Lib.hid (by rw [Hs.out]; rfl), Lib.hid (by rw [Ht.out]; simp)⟩
      case round =>
        obtain ⟨j, u, hj, rfl, Hu, Hl⟩ := hrel
        have hus : u.size ≤ 7000 := by rw [Hu.out]; omega
        by_cases hlt : j < p
        · have hne : ((u.size : Nat) : Int) % 4 ≠ 0 := by rw [Hu.out]; have := Hm.out j hlt; omega
          go_wp2
          go_round
          case rel => exact ⟨j + 1, _, by omega, rfl, Lib.hid (by rw [ByteArray.size_append, Hu.out]; rfl), Lib.hid (by rw [ByteArray.data_append, Array.toList_append, Hl.out, List.replicate_succ', List.append_assoc])⟩
          case measure => simp only [strSize, ByteArray.size_append]; rw [Hu.out]; show n + p - (n + j + 1) < _; omega
        · have hne : ((u.size : Nat) : Int) % 4 = 0 := by rw [Hu.out]; have := Hn.out j hj hlt; omega
          obtain rfl : j = p := by omega
          go_wp2
          go_ret
          exact ⟨ret_string (bytes_ext (by rw [Hl.out, ← Hr.out, Hen.out])), hb⟩
#print axioms refEnc_any
end Go.Proofs.Ytncnildpbccpaaa
