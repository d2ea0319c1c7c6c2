/- The document's example of a packet; the walk of HeaderParses. -/
import Derived.Test.YtncnildpbccpaaaDoorKo
import Derived.Test.YtncnildpbccpaaaDoorKp
set_option maxRecDepth 100000
namespace Go.Proofs.YtncnildpbccpaaaDoor
open Go.RowKit
set_option linter.unusedVariables false

theorem exPk_right : H.right 0 0 0 64 17 [] 2 = true := by decide +kernel

def exPk : Pkt := ⟨0, 0, false, false, 0, 64, 17, 167772161, 167772162, [], ⟨#[97, 98]⟩⟩
def exBytes : ByteArray := H.enc 0 0 false false 0 64 17 167772161 167772162 [] ⟨#[97, 98]⟩

theorem exBytes_size : exBytes.size = 22 := by
  have h : exBytes.data.toList.length = 22 := by
    unfold exBytes
    rw [H.enc_lst, H.lst_length]
    rfl
  rwa [Array.length_toList] at h

theorem exBytes_parse : H.parse exBytes.data.toList = .ok exPk := by
  obtain ⟨h1, h2, _⟩ := H.enc_ok 0 0 false false 0 64 17 167772161 167772162 [] ⟨#[97, 98]⟩ (H.right_nat 0 0 0 64 17 [] 2 (by decide) exPk_right) (by decide) (by decide)
  have := h1.parse
  rw [h2] at this
  exact this

theorem exEnc (w : World) : Calls Tryd.prog 22 #[.agg #[.int .i64 0, .int .i64 0, .bool false, .bool false, .int .i64 0, .int .i64 64, .int .i64 17, .int .u32 167772161, .int .u32 167772162, .slice none 0 0, .string ⟨#[97, 98]⟩]] w fun e w' => e = .returned (.tuple #[.string exBytes, .int .i64 0]) ∧ Below w.heap.size w w' :=
  henc_ok 0 0 false false 0 64 17 167772161 167772162 none 0 [] ⟨#[97, 98]⟩ w (.inl rfl) (by decide) (fun o ho => by cases ho) (by decide) (by decide) (by decide) exPk_right

theorem exParse (w : World) : Calls Tryd.prog 17 #[.string exBytes] w fun e w' => ∃ ao cp, e = .returned (.tuple #[.agg #[.int .i64 0, .int .i64 0, .bool false, .bool false, .int .i64 0, .int .i64 64, .int .i64 17, .int .u32 167772161, .int .u32 167772162, .slice ao 0 cp, .string ⟨#[97, 98]⟩], .int .i64 0]) ∧ Below w.heap.size w w' := by
  have h := hparse exBytes.data.toList w (by rw [Array.length_toList]; show exBytes.size ≤ 90000; rw [exBytes_size]; omega)
  rw [exBytes_parse, ← ba_of] at h
  refine h.mono ?_
  rintro e w' ⟨ao, cp, rfl, _, hb⟩
  exact ⟨ao, cp, rfl, hb⟩

set_option maxHeartbeats 1000000 in
theorem awake5_any (w : World) : Calls Tryd.prog 16 #[] w fun e w' => e = .returned (.bool true) ∧ Below w.heap.size w w' := by
  have hz := exBytes_size
  have H1 := Lib.hid exEnc
  have H2 := Lib.hid exParse
  generalize exBytes = s at *
  go_enter Tryd.func16, Tryd.ntmps16
  go_wp2_with fail
  refine (H1.out _).mono ?_
  rintro e w1 ⟨rfl, hb1⟩
  go_wp2_with fail
  refine (H2.out _).mono ?_
  rintro e w2 ⟨ao, cp, rfl, hb2⟩
  have hbw := hb1.trans (hb2.mono hb1.size)
  clear hb1 hb2 H1 H2
  go_wp2
  go_ret
  exact ⟨rfl, hbw.alloc hbw.size _⟩

set_option maxHeartbeats 400000 in
theorem hpl_long (S : ByteArray) (w : World) (hs : S.size ≤ maxLen) (h : 3000 < S.size) :
    Calls Tryd.prog 5 #[.string S] w fun e w' => e = .returned (.bool true) ∧ Below w.heap.size w w' := by
  unfold maxLen at hs
  go_enter Tryd.func5, Tryd.ntmps5
  go_wp2_with fail
  refine (awake5_any _).mono ?_
  rintro e w1 ⟨rfl, hb⟩
  go_wp2
  go_ret
  exact ⟨rfl, hb⟩

set_option maxHeartbeats 1000000 in
theorem hpl_err (s : List UInt8) (w : World) (hs : s.length ≤ 3000) (n : Nat) (h : H.parse s = .error n) :
    Calls Tryd.prog 5 #[.string (ba s)] w fun e w' => e = .returned (.bool true) ∧ Below w.heap.size w w' := by
  have H1 := Lib.hid (fun w => hparse s w (by omega))
  have H2 := Lib.hid (fun w => refhparse s w (by omega))
  rw [h] at H1 H2
  have hz := ba_size s
  have Hs := Lib.hid (fun w => same5_yes 0 0 false false 0 0 0 0 0 ⟨#[]⟩ none none 0 0 [] [] w (.inl rfl) (.inl rfl) (by unfold maxLen; simp) (by unfold maxLen; simp))
  clear h
  generalize ba s = S at *
  go_enter Tryd.func5, Tryd.ntmps5
  go_wp2_with fail
  refine (H1.out w).mono ?_
  rintro e w1 ⟨rfl, hb1⟩
  go_wp2_with fail
  refine (H2.out _).mono ?_
  rintro e w2 ⟨rfl, hbn⟩
  have hb2 := (hb1.alloc hb1.size (.cells #[.int .i64 0, .int .i64 0, .bool false, .bool false, .int .i64 0, .int .i64 0, .int .i64 0, .int .u32 0, .int .u32 0, .slice none 0 0, .string ⟨#[]⟩] 36)).trans (hbn.mono (by have := hb1.size; simp; omega))
  have hc : w2.heap[w1.heap.size]? = some (.cells #[.int .i64 0, .int .i64 0, .bool false, .bool false, .int .i64 0, .int .i64 0, .int .i64 0, .int .u32 0, .int .u32 0, .slice none 0 0, .string ⟨#[]⟩] 36 (0, 0)) := (hbn.block w1.heap.size (by simp)).trans (heap_alloc_new w1 _)
  have hlt := lt_of_block hc
  have hcell : ∀ i : Nat, w2.cell? ⟨w1.heap.size, i, none⟩ = (w1.alloc (.cells #[.int .i64 0, .int .i64 0, .bool false, .bool false, .int .i64 0, .int .i64 0, .int .i64 0, .int .u32 0, .int .u32 0, .slice none 0 0, .string ⟨#[]⟩] 36)).cell? ⟨w1.heap.size, i, none⟩ := fun i => World.cell?_of_block (hc.trans (heap_alloc_new w1 _).symm)
  clear hbn hc hb1 H1 H2
  go_wp2_with fail
  refine (Hs.out _).mono ?_
  rintro e w3 ⟨rfl, hbn⟩
  have hb3 := (hb2.alloc hb2.size (.cells #[.int .i64 0, .int .i64 0, .bool false, .bool false, .int .i64 0, .int .i64 0, .int .i64 0, .int .u32 0, .int .u32 0, .slice none 0 0, .string ⟨#[]⟩] 36)).trans (hbn.mono (by have := hb2.size; simp; omega))
  have hsb : sameB [] [] = true := sameB_refl []
  rw [hsb]
  clear hbn hb2 Hs
  go_wp2_with fail
  refine (awake5_any _).mono ?_
  rintro e w4 ⟨rfl, hbn⟩
  have hb4 := hb3.trans (hbn.mono hb3.size)
  clear hbn hb3
  go_wp2
  go_ret
  exact ⟨rfl, hb4⟩

set_option maxHeartbeats 1000000 in
theorem hpl_ok (s : List UInt8) (w : World) (hs : s.length ≤ 3000) (tos id : Int) (df mf : Bool) (off ttl proto : Int) (src dst : Nat) (l : List Opt) (d : ByteArray) (h : H.parse s = .ok ⟨tos, id, df, mf, off, ttl, proto, src, dst, l, d⟩) (hl : l.length ≤ 40) :
    Calls Tryd.prog 5 #[.string (ba s)] w fun e w' => e = .returned (.bool true) ∧ Below w.heap.size w w' := by
  have H1 : Hid (∀ w, Calls Tryd.prog 17 #[.string (ba s)] w fun e w' => ∃ ao cp, e = .returned (.tuple #[pk tos id df mf off ttl proto src dst (.slice ao l.length cp) d, .int .i64 0]) ∧ OptRow w' ao l ∧ Below w.heap.size w w') := Lib.hid (fun w => by have := hparse s w (by omega); rw [h] at this; exact this)
  have H2 : Hid (∀ w, Calls Tryd.prog 18 #[.string (ba s)] w fun e w' => ∃ ao cp, e = .returned (.tuple #[pk tos id df mf off ttl proto src dst (.slice ao l.length cp) d, .int .i64 0]) ∧ OptRow w' ao l ∧ Below w.heap.size w w') := Lib.hid (fun w => by have := refhparse s w (by omega); rw [h] at this; exact this)
  have hz := ba_size s
  have Hs := Lib.hid (fun o1 o2 c1 c2 w h1 h2 => same5_yes tos id df mf off ttl proto src dst d o1 o2 c1 c2 l l w h1 h2 (by unfold maxLen; omega) (by unfold maxLen; omega))
  have hsb : sameB l l = true := sameB_refl l
  rw [hsb] at Hs
  clear h hsb
  generalize ba s = S at *
  go_enter Tryd.func5, Tryd.ntmps5
  go_wp2_with fail
  refine (H1.out w).mono ?_
  rintro e w1 ⟨ao, cp, rfl, hrow1, hb1⟩
  go_wp2_with fail
  refine (H2.out _).mono ?_
  rintro e w2 ⟨ao2, cp2, rfl, hrow2, hbn⟩
  have hb2 := (hb1.alloc hb1.size (pkO tos id df mf off ttl proto src dst (.slice ao l.length cp) d)).trans (hbn.mono (by have := hb1.size; simp; omega))
  have hc : w2.heap[w1.heap.size]? = some (pkO tos id df mf off ttl proto src dst (.slice ao l.length cp) d) := (hbn.block w1.heap.size (by simp)).trans (heap_alloc_new w1 _)
  have hrow1' := (hrow1.carry ((Below.refl _ w1).alloc (Nat.le_refl _) _)).carry hbn
  have hlt := lt_of_block hc
  have hcell : ∀ i : Nat, w2.cell? ⟨w1.heap.size, i, none⟩ = (w1.alloc (pkO tos id df mf off ttl proto src dst (.slice ao l.length cp) d)).cell? ⟨w1.heap.size, i, none⟩ := fun i => World.cell?_of_block (hc.trans (heap_alloc_new w1 _).symm)
  have Hr1 := Lib.hid hrow1'
  have Hr2 := Lib.hid hrow2
  clear hbn hc hb1 H1 H2 hrow1 hrow1' hrow2
  go_wp2_with fail
  refine (Hs.out ao ao2 cp cp2 _ (Hr1.out.carry ((Below.refl _ w2).alloc (Nat.le_refl _) _)) (Hr2.out.carry ((Below.refl _ w2).alloc (Nat.le_refl _) _))).mono ?_
  rintro e w3 ⟨rfl, hbn⟩
  have hb3 := (hb2.alloc hb2.size (pkO tos id df mf off ttl proto src dst (.slice ao2 l.length cp2) d)).trans (hbn.mono (by have := hb2.size; simp; omega))
  clear hbn hb2 Hs Hr1 Hr2
  go_wp2_with fail
  refine (awake5_any _).mono ?_
  rintro e w4 ⟨rfl, hbn⟩
  have hb4 := hb3.trans (hbn.mono hb3.size)
  clear hbn hb3
  go_wp2
  go_ret
  exact ⟨rfl, hb4⟩

theorem hpl_all (S : ByteArray) (w : World) (hs : S.size ≤ maxLen) :
    Calls Tryd.prog 5 #[.string S] w fun e w' => e = .returned (.bool true) ∧ Below w.heap.size w w' := by
  by_cases h : 3000 < S.size
  · exact hpl_long S w hs h
  · rw [ba_of S]
    have hl : S.data.toList.length ≤ 3000 := by rw [Array.length_toList]; show S.size ≤ 3000; omega
    cases hp : H.parse S.data.toList with
    | error n => exact hpl_err _ w hl n hp
    | ok k =>
      obtain ⟨l, rfl, ho⟩ := H.parse_inv _ _ hp
      exact hpl_ok _ w hl _ _ _ _ _ _ _ _ _ l _ hp (O.parse_len _ _ ho.opts)
#print axioms hpl_all
end Go.Proofs.YtncnildpbccpaaaDoor

