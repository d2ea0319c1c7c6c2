/- The document's example of a packet; the walk of HeaderParses. -/
import Derived.Test.YtncnildpbccpaaaGreatDoorKo
import Derived.Test.YtncnildpbccpaaaGreatDoorKp
set_option maxRecDepth 100000
namespace Go.Proofs.YtncnildpbccpaaaGreatDoor
open Go.RowKit
set_option linter.unusedVariables false

theorem exPk_right : H.right 0 0 0 64 17 [] 2 = true := by decide +kernel

def exPk : Pkt := ⟨0, 0, false, false, 0, 64, 17, 167772161, 167772162, [], ⟨#[97, 98]⟩⟩
def exBytes : ByteArray := H.enc 0 0 false false 0 64 17 167772161 167772162 [] ⟨#[97, 98]⟩

theorem exBytes_size : exBytes.size = 22 := by
  have h : exBytes.data.toList.length = 22 := by
    unfold exBytes
    rw [H.enc_lst, H.lst_length]
    rfl
  rwa [Array.length_toList] at h

theorem exBytes_parse : H.parse exBytes.data.toList = .ok exPk := by
  obtain ⟨h1, h2, _⟩ := H.enc_ok 0 0 false false 0 64 17 167772161 167772162 [] ⟨#[97, 98]⟩ (H.right_nat 0 0 0 64 17 [] 2 (by decide) exPk_right) (by decide) (by decide)
  have := h1.parse
  rw [h2] at this
  exact this

theorem exEnc (w : World) : Calls Tryz.prog 6 #[.agg #[.int .i64 0, .int .i64 0, .bool false, .bool false, .int .i64 0, .int .i64 64, .int .i64 17, .int .u32 167772161, .int .u32 167772162, .slice none 0 0, .string ⟨#[97, 98]⟩]] w fun e w' => e = .returned (.tuple #[.string exBytes, .int .i64 0]) ∧ Below w.heap.size w w' :=
  henc_ok 0 0 false false 0 64 17 167772161 167772162 none 0 [] ⟨#[97, 98]⟩ w (.inl rfl) (by decide) (fun o ho => by cases ho) (by decide) (by decide) (by decide) exPk_right

theorem exParse (w : World) : Calls Tryz.prog 13 #[.string exBytes] w fun e w' => ∃ ao cp, e = .returned (.tuple #[.agg #[.int .i64 0, .int .i64 0, .bool false, .bool false, .int .i64 0, .int .i64 64, .int .i64 17, .int .u32 167772161, .int .u32 167772162, .slice ao 0 cp, .string ⟨#[97, 98]⟩], .int .i64 0]) ∧ Below w.heap.size w w' := by
  have h := hparse exBytes.data.toList w (by rw [Array.length_toList]; show exBytes.size ≤ 90000; rw [exBytes_size]; omega)
  rw [exBytes_parse, ← ba_of] at h
  refine h.mono ?_
  rintro e w' ⟨ao, cp, rfl, _, hb⟩
  exact ⟨ao, cp, rfl, hb⟩

set_option maxHeartbeats 1000000 in
theorem awake5_any (w : World) : Calls Tryz.prog 5 #[] w fun e w' => e = .returned (.bool true) ∧ Below w.heap.size w w' := by
  have hz := exBytes_size
  have H1 := Lib.hid exEnc
  have H2 := Lib.hid exParse
  generalize exBytes = s at *
  go_enter Tryz.func5, Tryz.ntmps5
  go_wp2_with fail
  refine (H1.out _).mono ?_
  rintro e w1 ⟨rfl, hb1⟩
  go_wp2_with fail
  refine (H2.out _).mono ?_
  rintro e w2 ⟨ao, cp, rfl, hb2⟩
  have hbw := hb1.trans (hb2.mono hb1.size)
  clear hb1 hb2 H1 H2
  go_wp2
  go_ret
  exact ⟨rfl, hbw.alloc hbw.size _⟩

end Go.Proofs.YtncnildpbccpaaaGreatDoor

