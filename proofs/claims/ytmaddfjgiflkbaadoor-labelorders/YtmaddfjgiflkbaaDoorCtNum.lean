/- The walk of the document's digits. -/
import Derived.Test.YtmaddfjgiflkbaaDoorCtPut
import Derived.Test.YtmaddfjgiflkbaaDoorCtTMath
import Derived.WalkSpells
import Derived.WalkSmall
import Derived.Lib.Strings
import Derived.Lib.AppendIntMem
namespace Go.Proofs.YtmaddfjgiflkbaaDoor
set_option maxRecDepth 100000
open Go.RowKit

def strEmpty : Value → Nat
  | .string b => if b.size = 0 then 1 else 0
  | _ => 0

/-- Where the document's loop over digits stands. -/
def NumAt (n m : Nat) (t : ByteArray) : Prop := (t.size = 0 ∧ m = n) ∨ (0 < t.size ∧ 0 < m ∧ Lib.decDigits m ++ t.data.toList = Lib.decDigits n) ∨ (0 < t.size ∧ m = 0 ∧ t.data.toList = Lib.decDigits n)

theorem empty_yes (t : ByteArray) (h : t.size = 0) : t.toList.isEmpty = true := by
  rw [Lib.toList_data, List.isEmpty_iff]; exact List.length_eq_zero_iff.1 h
theorem empty_no (t : ByteArray) (h : ¬ t.size = 0) : t.toList.isEmpty = false := by
  rw [Lib.toList_data, List.isEmpty_eq_false_iff]; intro e; exact h (by show t.data.toList.length = 0; rw [e]; rfl)

theorem dec_small (m : Nat) (h : m < 10) : Lib.decDigits m = [UInt8.ofNat (48 + m % 10)] := by rw [Lib.decDigits_one h, Nat.mod_eq_of_lt h]
theorem dec_step (m : Nat) (h : ¬ m < 10) : Lib.decDigits m = Lib.decDigits (m / 10) ++ [UInt8.ofNat (48 + m % 10)] := by rw [Lib.decDigits, dif_neg h]

theorem NumAt.step {n m : Nat} {t dg : ByteArray} (hd : (⟨#[UInt8.ofNat (48 + m % 10)]⟩ : ByteArray) = dg) (h0 : 0 < m) (h : NumAt n m t) : NumAt n (m / 10) (dg ++ t) := by
  subst hd
  have hs : 0 < (ByteArray.mk #[UInt8.ofNat (48 + m % 10)] ++ t).size := by rw [ByteArray.size_append]; show 0 < 1 + t.size; omega
  have hl : (ByteArray.mk #[UInt8.ofNat (48 + m % 10)] ++ t).data.toList = UInt8.ofNat (48 + m % 10) :: t.data.toList := by rw [ByteArray.data_append]; simp
  have ht : Lib.decDigits m ++ t.data.toList = Lib.decDigits n := by
    rcases h with ⟨h1, h2⟩ | ⟨_, _, h3⟩ | ⟨_, h2, _⟩
    · have : t.data.toList = [] := List.length_eq_zero_iff.1 h1
      rw [this, h2]; simp
    · exact h3
    · omega
  by_cases h10 : m < 10
  · refine .inr (.inr ⟨hs, by omega, ?_⟩)
    rw [hl, ← ht, dec_small m h10]; rfl
  · refine .inr (.inl ⟨hs, by omega, ?_⟩)
    rw [hl, ← ht, dec_step m h10]; simp

theorem NumAt.zero {n : Nat} {t dg : ByteArray} (hd : (⟨#[UInt8.ofNat (48 + 0 % 10)]⟩ : ByteArray) = dg) (hz : t.size = 0) (h : NumAt n 0 t) : NumAt n 0 (dg ++ t) := by
  subst hd
  have ht : t.data.toList = [] := List.length_eq_zero_iff.1 hz
  rcases h with ⟨_, h2⟩ | ⟨h1, _⟩ | ⟨h1, _⟩
  · subst h2
    refine .inr (.inr ⟨by rw [ByteArray.size_append]; show 0 < 1 + t.size; omega, rfl, ?_⟩)
    rw [ByteArray.data_append, dec_small 0 (by decide)]
    simp [ht]
  · omega
  · omega

set_option maxRecDepth 100000 in
set_option maxHeartbeats 1000000 in
theorem number10_any (n : Nat) (w : World) (hn : n ≤ 255) :
    Calls Tryd.prog 37 #[.int .i64 n] w fun e w' => e = .returned (.string ⟨(Lib.decDigits n).toArray⟩) ∧ Below w.heap.size w w' := by
  go_enter Tryd.func37, Tryd.ntmps37
  go_wp2_with fail
  go_loopw [0, 3] (fun i s wr => ∃ (m : Nat) (t : ByteArray), m ≤ 255 ∧ t.size ≤ 1000 - m ∧ i = .int .i64 m ∧ s = .string t ∧ Hid (NumAt n m t) ∧ Below w.heap.size w wr) (fun i s _ => (intOf i).toNat + strEmpty s)
  case atStart => exact ⟨n, ByteArray.empty, hn, by show 0 ≤ _; omega, rfl, rfl, .inl ⟨rfl, rfl⟩, Below.refl _ _⟩
  case round =>
    obtain ⟨m, t, hm, ht, rfl, rfl, hat, hb⟩ := hrel
    generalize hdg : (⟨#[UInt8.ofNat (48 + m % 10)]⟩ : ByteArray) = dg
    have hcells : ∀ j (hj : j < [UInt8.ofNat (48 + m % 10)].length), (wr.alloc (.cells #[.int .u8 (48 + (m : Int) % 10)] 5)).cell? ((⟨wr.heap.size, 0, none⟩ : Addr).add j) = some (.int .u8 (([UInt8.ofNat (48 + m % 10)][j].toNat : Nat) : Int)) := by
      intro j hj
      match j, hj with
      | 0, _ => simp [Addr.add]; omega
    have hcv : (convert 86 9 (.slice (some ⟨wr.heap.size, 0, none⟩) 1 1)).run Tryd.prog (wr.alloc (.cells #[.int .u8 (48 + (m : Int) % 10)] 5)) = .ok (.string dg) (wr.alloc (.cells #[.int .u8 (48 + (m : Int) % 10)] 5)) := by
      rw [← hdg]
      exact run_convert_bytes_back (P := Tryd.prog) _ 86 9 5 ⟨wr.heap.size, 0, none⟩ 1 [UInt8.ofNat (48 + m % 10)] Tryd.underlying86 Tryd.underlying5 Tryd.underlying9 hcells
    clear hcells
    have hds : dg.size = 1 := by rw [← hdg]; rfl
    have Hdg := Lib.hid hdg
    clear hdg
    have q6 : (9223372036854775807 < 1 + t.size) = False := by simp; omega
    have hdv := Lib.hid (show (m : Int) / 10 = ((m / 10 : Nat) : Int) by omega)
    by_cases h0 : 0 < m
    · have h1 : 0 < (m : Int) := by omega
      have hat2 := Lib.hid (hat.out.step Hdg.out h0)
      go_wp2_with fail
      go_roundw
      case rel => exact ⟨m / 10, dg ++ t, by omega, by rw [ByteArray.size_append, hds]; omega, by rw [hdv.out], rfl, hat2, hb.alloc hb.size _⟩
      case measure =>
        have e1 : strEmpty (.string (dg ++ t)) = 0 := by
          show (if (dg ++ t).size = 0 then 1 else 0) = 0
          rw [if_neg (by rw [ByteArray.size_append, hds]; omega)]
        rw [e1]
        simp [intOf]; omega
    · have hm0 : m = 0 := by omega
      subst hm0
      by_cases hz : t.size = 0
      · have hat2 := Lib.hid (hat.out.zero Hdg.out hz)
        have he := empty_yes t hz
        have hcv0 : (convert 86 9 (.slice (some ⟨wr.heap.size, 0, none⟩) 1 1)).run Tryd.prog (wr.alloc (.cells #[.int .u8 48] 5)) = .ok (.string dg) (wr.alloc (.cells #[.int .u8 48] 5)) := hcv
        clear hcv
        go_wp2_with fail
        go_roundw
        case rel => exact ⟨0, dg ++ t, by omega, by rw [ByteArray.size_append, hds]; omega, by go_num, rfl, hat2, hb.alloc hb.size _⟩
        case measure =>
          have e1 : strEmpty (.string (dg ++ t)) = 0 := by
            show (if (dg ++ t).size = 0 then 1 else 0) = 0
            rw [if_neg (by rw [ByteArray.size_append, hds]; omega)]
          have e2 : strEmpty (.string t) = 1 := by
            show (if t.size = 0 then 1 else 0) = 1
            rw [if_pos hz]
          rw [e1, e2]
          simp [intOf]
      · have E := Lib.hid (show (⟨(Lib.decDigits n).toArray⟩ : ByteArray) = t by
          rcases hat.out with ⟨h1, _⟩ | ⟨_, h1, _⟩ | ⟨_, _, h3⟩
          · exact absurd h1 hz
          · omega
          · rw [← h3])
        have he := empty_no t hz
        go_wp2
        go_ret
        exact ⟨by rw [E.out]; rfl, hb⟩
#print axioms number10_any
end Go.Proofs.YtmaddfjgiflkbaaDoor
