/- The walk of AddrTexts. -/
import Derived.Test.YtlnmpibhjpedcaaDoorAddrRefText
namespace Go.Proofs.YtlnmpibhjpedcaaDoor
open Go.RowKit

theorem text_size (a : Nat) (ha : a < 4294967296) : (A.text a).size ≤ 15 := by
  have h0 := told_len (a / 16777216) (by omega)
  have h1 := told_len (a / 65536 % 256) (by omega)
  have h2 := told_len (a / 256 % 256) (by omega)
  have h3 := told_len (a % 256) (by omega)
  have e : (A.text a).size = (A.text a).data.toList.length := rfl
  rw [e]
  unfold A.text
  rw [text_list]
  simp at h0 h1 h2 h3 ⊢
  omega

set_option maxHeartbeats 400000 in
theorem texts_long (a : Nat) (s : ByteArray) (w : World) (L : Laid w) (hs : 60 < s.size) :
    Calls Tryd.prog 3 #[.int .u32 a, .string s] w fun e w' => e = .returned (.bool true) ∧ Below w.heap.size w w' := by
  have HL := Lib.hid L
  clear L
  have h0 : (60 : Int) < (s.size : Int) := by omega
  go_enter Tryd.func3, Tryd.ntmps3
  go_wp2_with fail
  refine (awake_any _ HL.out).mono ?_
  rintro e w1 ⟨rfl, hb⟩
  go_wp2
  go_ret
  exact ⟨rfl, hb⟩

set_option maxRecDepth 8000 in
set_option maxHeartbeats 1000000 in
theorem texts_none (a : Nat) (s : ByteArray) (w : World) (ha : a < 4294967296) (L : Laid w) (hs : ¬ 60 < s.size) (hp : A.parse s = none) :
    Calls Tryd.prog 3 #[.int .u32 a, .string s] w fun e w' => e = .returned (.bool true) ∧ Below w.heap.size w w' := by
  have HL := Lib.hid L
  have Ha := Lib.hid ha
  have Hs := Lib.hid hs
  have h0 : ¬ (60 : Int) < (s.size : Int) := by omega
  have P1 := Lib.hid (show A.parseIs (A.text a) = #[.int .u32 a, .bool true] by unfold A.parseIs; rw [parse_text a ha])
  have P2 := Lib.hid (show A.parseIs s = #[.int .u32 0, .bool false] by unfold A.parseIs; rw [hp])
  have Z := Lib.hid (text_size a ha)
  generalize hT : A.text a = T at *
  generalize hk : A.kind a = kd
  have HT := Lib.hid hT
  have HK := Lib.hid hk
  clear L ha hs hp hT hk
  go_enter Tryd.func3, Tryd.ntmps3
  go_wp2_with fail
  refine (text_any a _ Ha.out HL.out).mono ?_
  rintro e w1 ⟨rfl, hb⟩
  rw [HT.out]
  have K1 := Lib.hid hb
  clear hb
  go_wp2_with fail
  refine (parse_any T _ (by have := Z.out; omega) (HL.out.below HL.out.size K1.out K1.out.size)).mono ?_
  rintro e w2 ⟨rfl, hb⟩
  rw [P1.out]
  have K2 := Lib.hid (K1.out.trans (hb.mono K1.out.size))
  clear hb
  go_wp2_with fail
  refine (parse_any s _ (by have := Hs.out; omega) (HL.out.below HL.out.size K2.out K2.out.size)).mono ?_
  rintro e w3 ⟨rfl, hb⟩
  rw [P2.out]
  have K3 := Lib.hid (K2.out.trans (hb.mono K2.out.size))
  clear hb
  go_wp2_with fail
  refine (text_any a _ Ha.out (HL.out.below HL.out.size K3.out K3.out.size)).mono ?_
  rintro e w4 ⟨rfl, hb⟩
  rw [HT.out]
  have K4 := Lib.hid (K3.out.trans (hb.mono K3.out.size))
  clear hb
  go_wp2_with fail
  refine (reftext_any a _ Ha.out).mono ?_
  rintro e w5 ⟨rfl, hb⟩
  rw [HT.out]
  have K5 := Lib.hid (K4.out.trans (hb.mono K4.out.size))
  clear hb
  go_wp2_with fail
  refine (kind_any a _ Ha.out).mono ?_
  rintro e w6 ⟨rfl, hb⟩
  rw [HK.out]
  have K6 := Lib.hid (K5.out.trans (hb.mono K5.out.size))
  clear hb
  go_wp2_with fail
  refine (refkind_any a _).mono ?_
  rintro e w9 ⟨rfl, rfl⟩
  rw [HK.out]
  go_wp2_with fail
  refine (awake_any _ (HL.out.below HL.out.size K6.out K6.out.size)).mono ?_
  rintro e w10 ⟨rfl, hb⟩
  have KE := Lib.hid (K6.out.trans (hb.mono K6.out.size))
  clear hb
  go_wp2
  go_ret
  exact ⟨rfl, KE.out⟩

set_option maxRecDepth 8000 in
set_option maxHeartbeats 1000000 in
theorem texts_some (a : Nat) (s : ByteArray) (w : World) (ha : a < 4294967296) (L : Laid w) (hs : ¬ 60 < s.size) (c : Nat) (hp : A.parse s = some c) :
    Calls Tryd.prog 3 #[.int .u32 a, .string s] w fun e w' => e = .returned (.bool true) ∧ Below w.heap.size w w' := by
  have HL := Lib.hid L
  have Ha := Lib.hid ha
  have Hs := Lib.hid hs
  have h0 : ¬ (60 : Int) < (s.size : Int) := by omega
  have P1 := Lib.hid (show A.parseIs (A.text a) = #[.int .u32 a, .bool true] by unfold A.parseIs; rw [parse_text a ha])
  have P2 := Lib.hid (show A.parseIs s = #[.int .u32 c, .bool true] by unfold A.parseIs; rw [hp])
  have Z := Lib.hid (text_size a ha)
  have TC := Lib.hid (text_parse hp)
  have Hc := Lib.hid (show c < 4294967296 by have := parse_lt s; rw [hp] at this; exact this)
  generalize hT : A.text a = T at *
  generalize hk : A.kind a = kd
  have HT := Lib.hid hT
  have HK := Lib.hid hk
  clear L ha hs hp hT hk
  go_enter Tryd.func3, Tryd.ntmps3
  go_wp2_with fail
  refine (text_any a _ Ha.out HL.out).mono ?_
  rintro e w1 ⟨rfl, hb⟩
  rw [HT.out]
  have K1 := Lib.hid hb
  clear hb
  go_wp2_with fail
  refine (parse_any T _ (by have := Z.out; omega) (HL.out.below HL.out.size K1.out K1.out.size)).mono ?_
  rintro e w2 ⟨rfl, hb⟩
  rw [P1.out]
  have K2 := Lib.hid (K1.out.trans (hb.mono K1.out.size))
  clear hb
  go_wp2_with fail
  refine (parse_any s _ (by have := Hs.out; omega) (HL.out.below HL.out.size K2.out K2.out.size)).mono ?_
  rintro e w3 ⟨rfl, hb⟩
  rw [P2.out]
  have K3 := Lib.hid (K2.out.trans (hb.mono K2.out.size))
  clear hb
  go_wp2_with fail
  refine (text_any a _ Ha.out (HL.out.below HL.out.size K3.out K3.out.size)).mono ?_
  rintro e w4 ⟨rfl, hb⟩
  rw [HT.out]
  have K4 := Lib.hid (K3.out.trans (hb.mono K3.out.size))
  clear hb
  go_wp2_with fail
  refine (reftext_any a _ Ha.out).mono ?_
  rintro e w5 ⟨rfl, hb⟩
  rw [HT.out]
  have K5 := Lib.hid (K4.out.trans (hb.mono K4.out.size))
  clear hb
  go_wp2_with fail
  refine (reftext_any c _ Hc.out).mono ?_
  rintro e w6 ⟨rfl, hb⟩
  rw [TC.out]
  have K6 := Lib.hid (K5.out.trans (hb.mono K5.out.size))
  clear hb
  go_wp2_with fail
  refine (kind_any a _ Ha.out).mono ?_
  rintro e w7 ⟨rfl, hb⟩
  rw [HK.out]
  have K7 := Lib.hid (K6.out.trans (hb.mono K6.out.size))
  clear hb
  go_wp2_with fail
  refine (refkind_any a _).mono ?_
  rintro e w9 ⟨rfl, rfl⟩
  rw [HK.out]
  go_wp2_with fail
  refine (awake_any _ (HL.out.below HL.out.size K7.out K7.out.size)).mono ?_
  rintro e w10 ⟨rfl, hb⟩
  have KE := Lib.hid (K7.out.trans (hb.mono K7.out.size))
  clear hb
  go_wp2
  go_ret
  exact ⟨rfl, KE.out⟩

theorem texts_any (a : Nat) (s : ByteArray) (w : World) (ha : a < 4294967296) (L : Laid w) :
    Calls Tryd.prog 3 #[.int .u32 a, .string s] w fun e w' => e = .returned (.bool true) ∧ Below w.heap.size w w' := by
  by_cases hs : 60 < s.size
  · exact texts_long a s w L hs
  · cases hp : A.parse s with
    | none => exact texts_none a s w ha L hs hp
    | some c => exact texts_some a s w ha L hs c hp
#print axioms texts_any
end Go.Proofs.YtlnmpibhjpedcaaDoor
