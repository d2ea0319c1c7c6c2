/- The walk of a packet's bytes with a lesser Ttl; what these are read as. -/
import Derived.Test.YtncnildpbccpaaaDoorKq
set_option maxRecDepth 100000
namespace Go.Proofs.YtncnildpbccpaaaDoor
open Go.RowKit
set_option linter.unusedVariables false

/-- The header with a lesser Ttl, and the bytes that it makes. -/
def H.lowHead (s : List UInt8) : List UInt8 := s.take 8 ++ ([H.g s 8 - 1].flatMap be1 ++ (s.take (H.hl s)).drop 9)
def H.low (s : List UInt8) : ByteArray := swap (ba (H.lowHead s)) 10 (csum (ba (H.lowHead s)) 10) ++ ba (s.drop (H.hl s))

theorem list20 (s : List UInt8) (h : 20 ≤ s.length) : ∃ x0 x1 x2 x3 x4 x5 x6 x7 x8 x9 x10 x11 x12 x13 x14 x15 x16 x17 x18 x19 r, s = x0 :: x1 :: x2 :: x3 :: x4 :: x5 :: x6 :: x7 :: x8 :: x9 :: x10 :: x11 :: x12 :: x13 :: x14 :: x15 :: x16 :: x17 :: x18 :: x19 :: r := by
  obtain ⟨x0, s, rfl⟩ := List.exists_cons_of_length_pos (show 0 < s.length by omega)
  rw [List.length_cons] at h
  obtain ⟨x1, s, rfl⟩ := List.exists_cons_of_length_pos (show 0 < s.length by omega)
  rw [List.length_cons] at h
  obtain ⟨x2, s, rfl⟩ := List.exists_cons_of_length_pos (show 0 < s.length by omega)
  rw [List.length_cons] at h
  obtain ⟨x3, s, rfl⟩ := List.exists_cons_of_length_pos (show 0 < s.length by omega)
  rw [List.length_cons] at h
  obtain ⟨x4, s, rfl⟩ := List.exists_cons_of_length_pos (show 0 < s.length by omega)
  rw [List.length_cons] at h
  obtain ⟨x5, s, rfl⟩ := List.exists_cons_of_length_pos (show 0 < s.length by omega)
  rw [List.length_cons] at h
  obtain ⟨x6, s, rfl⟩ := List.exists_cons_of_length_pos (show 0 < s.length by omega)
  rw [List.length_cons] at h
  obtain ⟨x7, s, rfl⟩ := List.exists_cons_of_length_pos (show 0 < s.length by omega)
  rw [List.length_cons] at h
  obtain ⟨x8, s, rfl⟩ := List.exists_cons_of_length_pos (show 0 < s.length by omega)
  rw [List.length_cons] at h
  obtain ⟨x9, s, rfl⟩ := List.exists_cons_of_length_pos (show 0 < s.length by omega)
  rw [List.length_cons] at h
  obtain ⟨x10, s, rfl⟩ := List.exists_cons_of_length_pos (show 0 < s.length by omega)
  rw [List.length_cons] at h
  obtain ⟨x11, s, rfl⟩ := List.exists_cons_of_length_pos (show 0 < s.length by omega)
  rw [List.length_cons] at h
  obtain ⟨x12, s, rfl⟩ := List.exists_cons_of_length_pos (show 0 < s.length by omega)
  rw [List.length_cons] at h
  obtain ⟨x13, s, rfl⟩ := List.exists_cons_of_length_pos (show 0 < s.length by omega)
  rw [List.length_cons] at h
  obtain ⟨x14, s, rfl⟩ := List.exists_cons_of_length_pos (show 0 < s.length by omega)
  rw [List.length_cons] at h
  obtain ⟨x15, s, rfl⟩ := List.exists_cons_of_length_pos (show 0 < s.length by omega)
  rw [List.length_cons] at h
  obtain ⟨x16, s, rfl⟩ := List.exists_cons_of_length_pos (show 0 < s.length by omega)
  rw [List.length_cons] at h
  obtain ⟨x17, s, rfl⟩ := List.exists_cons_of_length_pos (show 0 < s.length by omega)
  rw [List.length_cons] at h
  obtain ⟨x18, s, rfl⟩ := List.exists_cons_of_length_pos (show 0 < s.length by omega)
  rw [List.length_cons] at h
  obtain ⟨x19, s, rfl⟩ := List.exists_cons_of_length_pos (show 0 < s.length by omega)
  rw [List.length_cons] at h
  exact ⟨_, _, _, _, _, _, _, _, _, _, _, _, _, _, _, _, _, _, _, _, _, rfl⟩

theorem H.low_ok (s : List UInt8) (l : List Opt) (h : H.Ok s l) (h1 : 1 ≤ H.g s 8) :
    H.Ok (H.low s).data.toList l ∧ H.pkt (H.low s).data.toList l = { H.pkt s l with ttl := (H.g s 8 : Int) - 1 } ∧ (H.low s).size = s.length := by
  have hlen := h.len
  have h20 := h.hl20
  have hhl := h.hlen
  have hsz := h.size
  have hfl := h.flag
  have hvr := h.ver
  have hop := h.opts
  have hdt := h.data
  clear h
  obtain ⟨m, hm⟩ : ∃ m, H.hl s = m + 20 := ⟨H.hl s - 20, by omega⟩
  have g8 := H.g_lt s 8
  obtain ⟨x0, x1, x2, x3, x4, x5, x6, x7, x8, x9, x10, x11, x12, x13, x14, x15, x16, x17, x18, x19, r, rfl⟩ := list20 s hlen
  have hhd : H.lowHead (x0 :: x1 :: x2 :: x3 :: x4 :: x5 :: x6 :: x7 :: x8 :: x9 :: x10 :: x11 :: x12 :: x13 :: x14 :: x15 :: x16 :: x17 :: x18 :: x19 :: r) = x0 :: x1 :: x2 :: x3 :: x4 :: x5 :: x6 :: x7 :: UInt8.ofNat (x8.toNat - 1) :: x9 :: x10 :: x11 :: x12 :: x13 :: x14 :: x15 :: x16 :: x17 :: x18 :: x19 :: r.take m := by
    unfold H.lowHead
    rw [hm]
    rfl
  have hg : ∀ c, (swap (ba (H.lowHead (x0 :: x1 :: x2 :: x3 :: x4 :: x5 :: x6 :: x7 :: x8 :: x9 :: x10 :: x11 :: x12 :: x13 :: x14 :: x15 :: x16 :: x17 :: x18 :: x19 :: r))) 10 c).data.toList = x0 :: x1 :: x2 :: x3 :: x4 :: x5 :: x6 :: x7 :: UInt8.ofNat (x8.toNat - 1) :: x9 :: UInt8.ofNat (c / 256) :: UInt8.ofNat (c % 256) :: x12 :: x13 :: x14 :: x15 :: x16 :: x17 :: x18 :: x19 :: r.take m := fun c => by
    rw [hhd, swap_list]
    rfl
  have hgood := put_is_good (ba (H.lowHead (x0 :: x1 :: x2 :: x3 :: x4 :: x5 :: x6 :: x7 :: x8 :: x9 :: x10 :: x11 :: x12 :: x13 :: x14 :: x15 :: x16 :: x17 :: x18 :: x19 :: r))) 10 (by decide) (by rw [ba_size, hhd]; simp only [List.length_cons]; omega)
  obtain ⟨c, hc⟩ : ∃ c, csum (ba (H.lowHead (x0 :: x1 :: x2 :: x3 :: x4 :: x5 :: x6 :: x7 :: x8 :: x9 :: x10 :: x11 :: x12 :: x13 :: x14 :: x15 :: x16 :: x17 :: x18 :: x19 :: r))) 10 = c := ⟨_, rfl⟩
  rw [hc] at hgood
  have hlow : ∃ c1 c2 : UInt8, (H.low (x0 :: x1 :: x2 :: x3 :: x4 :: x5 :: x6 :: x7 :: x8 :: x9 :: x10 :: x11 :: x12 :: x13 :: x14 :: x15 :: x16 :: x17 :: x18 :: x19 :: r)).data.toList = x0 :: x1 :: x2 :: x3 :: x4 :: x5 :: x6 :: x7 :: UInt8.ofNat (x8.toNat - 1) :: x9 :: c1 :: c2 :: x12 :: x13 :: x14 :: x15 :: x16 :: x17 :: x18 :: x19 :: r ∧
      M.ofs [ba (x0 :: x1 :: x2 :: x3 :: x4 :: x5 :: x6 :: x7 :: UInt8.ofNat (x8.toNat - 1) :: x9 :: c1 :: c2 :: x12 :: x13 :: x14 :: x15 :: x16 :: x17 :: x18 :: x19 :: r.take m)] = 0 := by
    refine ⟨UInt8.ofNat (c / 256), UInt8.ofNat (c % 256), ?_, ?_⟩
    · unfold H.low
      rw [ByteArray.data_append, Array.toList_append, hc, hg, hm]
      show x0 :: x1 :: x2 :: x3 :: x4 :: x5 :: x6 :: x7 :: UInt8.ofNat (x8.toNat - 1) :: x9 :: _ :: _ :: x12 :: x13 :: x14 :: x15 :: x16 :: x17 :: x18 :: x19 :: (r.take m ++ r.drop m) = _
      rw [List.take_append_drop]
    · rw [← hg, ← ba_of]
      exact hgood
  obtain ⟨c1, c2, e, hz⟩ := hlow
  have hsize : (H.low (x0 :: x1 :: x2 :: x3 :: x4 :: x5 :: x6 :: x7 :: x8 :: x9 :: x10 :: x11 :: x12 :: x13 :: x14 :: x15 :: x16 :: x17 :: x18 :: x19 :: r)).size = (x0 :: x1 :: x2 :: x3 :: x4 :: x5 :: x6 :: x7 :: x8 :: x9 :: x10 :: x11 :: x12 :: x13 :: x14 :: x15 :: x16 :: x17 :: x18 :: x19 :: r).length := by
    have : (H.low (x0 :: x1 :: x2 :: x3 :: x4 :: x5 :: x6 :: x7 :: x8 :: x9 :: x10 :: x11 :: x12 :: x13 :: x14 :: x15 :: x16 :: x17 :: x18 :: x19 :: r)).data.toList.length = _ := congrArg List.length e
    rw [Array.length_toList] at this
    exact this
  rw [e]
  clear e hg hhd hgood
  have hhl' : H.hl (x0 :: x1 :: x2 :: x3 :: x4 :: x5 :: x6 :: x7 :: UInt8.ofNat (x8.toNat - 1) :: x9 :: c1 :: c2 :: x12 :: x13 :: x14 :: x15 :: x16 :: x17 :: x18 :: x19 :: r) = m + 20 := hm
  refine ⟨⟨hlen, hvr, h20, hfl, hhl, hsz, ?_, hop, hdt⟩, ?_, hsize⟩
  · rw [hhl']
    exact hz
  · have hgg : H.g (x0 :: x1 :: x2 :: x3 :: x4 :: x5 :: x6 :: x7 :: UInt8.ofNat (x8.toNat - 1) :: x9 :: c1 :: c2 :: x12 :: x13 :: x14 :: x15 :: x16 :: x17 :: x18 :: x19 :: r) 8 = x8.toNat - 1 := H.of256 _ (by have := x8.toNat_lt; omega)
    have h1' : 1 ≤ x8.toNat := h1
    have e8 : ((x8.toNat - 1 : Nat) : Int) = (x8.toNat : Int) - 1 := by omega
    unfold H.pkt
    rw [hgg, e8, hhl', hm]
    rfl

theorem byte_one (n : Nat) : [n].flatMap be1 = [UInt8.ofNat n] := rfl

set_option maxHeartbeats 1000000 in
theorem low_err (s : List UInt8) (w : World) (hs : s.length ≤ 90000) (n : Nat) (hp : H.parse s = .error n) :
    Calls Tryd.prog 23 #[.string (ba s)] w fun e w' => e = .returned (.tuple #[.string ⟨#[]⟩, .int .i64 n]) ∧ Below w.heap.size w w' := by
  have hn := H.parse_err_ge s n hp
  have Hs := Lib.hid (fun w => steps_any s w hs)
  have hne : ((n : Int) != 0) = true := by simp; omega
  have Hn : Hid (∀ w e w', Steps s w e w' → e = .returned (.tuple #[.pointer none, .int .i64 n]) ∧ Below w.heap.size w w') := Lib.hid (by intro w e w' h; unfold Steps at h; rw [hp] at h; exact h)
  clear hp
  generalize ba s = S at *
  go_enter Tryd.func23, Tryd.ntmps23
  go_wp2_with fail
  refine (Hs.out _).mono ?_
  rintro e w1 hst
  obtain ⟨rfl, hb⟩ := Hn.out _ _ _ hst
  clear hst Hs Hn
  go_wp2
  go_ret2
  exact ⟨rfl, hb⟩

set_option maxHeartbeats 1000000 in
theorem low_live (s : List UInt8) (w : World) (hs : s.length ≤ 90000) (l : List Opt) (hp : H.parse s = .ok (H.pkt s l)) (h8 : H.g s 8 = 0) :
    Calls Tryd.prog 23 #[.string (ba s)] w fun e w' => e = .returned (.tuple #[.string ⟨#[]⟩, .int .i64 13]) ∧ Below w.heap.size w w' := by
  have Hs := Lib.hid (fun w => steps_any s w hs)
  have Hn : Hid (∀ w e w', Steps s w e w' → ∃ p, e = .returned (.tuple #[.pointer (some ⟨p, 0, none⟩), .int .i64 0]) ∧ w'.cell? ⟨p, 9, none⟩ = some (.int .i64 0) ∧ Below w.heap.size w w') := Lib.hid (by
    intro w e w' h
    unfold Steps at h
    rw [hp] at h
    obtain ⟨p, r, ao, cp, he, hH, _, hb⟩ := h
    refine ⟨p, he, ?_, hb⟩
    have := hH.at 9 (.int .i64 (H.g s 8)) rfl
    rw [h8] at this
    exact this)
  clear hp h8
  generalize ba s = S at *
  go_enter Tryd.func23, Tryd.ntmps23
  go_wp2_with fail
  refine (Hs.out _).mono ?_
  rintro e w1 hst
  obtain ⟨p, rfl, hc, hb⟩ := Hn.out _ _ _ hst
  clear hst Hs Hn
  go_wp2
  go_ret2
  exact ⟨rfl, hb⟩

set_option maxHeartbeats 8000000 in
theorem low_go (s : List UInt8) (w : World) (hs : s.length ≤ 90000) (l : List Opt) (hp : H.parse s = .ok (H.pkt s l)) (h8 : 1 ≤ H.g s 8) :
    Calls Tryd.prog 23 #[.string (ba s)] w fun e w' => e = .returned (.tuple #[.string (H.low s), .int .i64 0]) ∧ Below w.heap.size w w' := by
  obtain ⟨l', _, hok⟩ := H.parse_inv s _ hp
  have hlen := hok.len
  have h20 := hok.hl20
  have hhl := hok.hlen
  have h60 := H.hl_le s
  have g8 := H.g_lt s 8
  have Hs := Lib.hid (fun w => steps_any s w hs)
  have Hn : Hid (∀ w e w', Steps s w e w' → ∃ p r v, e = .returned (.tuple #[.pointer (some ⟨p, 0, none⟩), .int .i64 0]) ∧ w.heap.size ≤ p ∧ w'.heap[p]? = some (.cells (cs3 r s v) 71 (0, 0)) ∧ Below w.heap.size w w') := Lib.hid (by
    intro w e w' h
    unfold Steps at h
    rw [hp] at h
    obtain ⟨p, r, ao, cp, he, hH, _, hb⟩ := h
    exact ⟨p, r, _, he, hH.low, hH.cell, hb⟩)
  have Hk : Hid (∀ (p r : Nat) (v : Value) (w' : World), w'.heap[p]? = some (.cells (cs3 r s v) 71 (0, 0)) → w'.cell? ⟨p, 2, none⟩ = some (.int .i64 (H.hl s)) ∧ w'.cell? ⟨p, 9, none⟩ = some (.int .i64 (H.g s 8))) := Lib.hid (fun p r v w' h => ⟨by simp only [World.cell?, h]; rfl, by simp only [World.cell?, h]; rfl⟩)
  have z := ba_size s
  have hS1 : (ba s).extract 0 8 = ba (s.take 8) := ba_take s 8
  have hS2 : (ba s).extract 9 (H.hl s) = ba ((s.take (H.hl s)).drop 9) := by rw [extract_ba, ba_list, List.drop_take]
  have hS3 : (ba s).extract (H.hl s) s.length = ba (s.drop (H.hl s)) := by have := ba_drop s (H.hl s); rw [z] at this; exact this
  have z1 : (ba (s.take 8)).size = 8 := by rw [ba_size, List.length_take]; omega
  have z2 : (ba ((s.take (H.hl s)).drop 9)).size = H.hl s - 9 := by rw [ba_size, List.length_drop, List.length_take]; omega
  have z3 : (ba (s.drop (H.hl s))).size = s.length - H.hl s := by rw [ba_size, List.length_drop]
  have Hlow : Hid (H.low s = swap (ba (H.lowHead s)) 10 (csum (ba (H.lowHead s)) 10) ++ ba (s.drop (H.hl s))) := Lib.hid rfl
  have Hhead : Hid (H.lowHead s = (ba (s.take 8)).data.toList ++ ([H.g s 8 - 1].flatMap be1 ++ (ba ((s.take (H.hl s)).drop 9)).data.toList)) := Lib.hid rfl
  have hHl : (H.lowHead s).length = H.hl s := by
    unfold H.lowHead
    rw [byte_one, List.length_append, List.length_append, List.length_take, List.length_drop, List.length_take, List.length_singleton]
    omega
  have hsub : ((H.g s 8 : Nat) : Int) - 1 = ((H.g s 8 - 1 : Nat) : Int) := by omega
  have hb8 : ((H.g s 8 : Nat) : Int) ≠ 0 := by omega
  have htl : H.g s 8 - 1 ≤ 255 := by omega
  rw [Hlow.out]
  clear hp hok Hlow
  generalize H.lowHead s = HD at *
  generalize ba ((s.take (H.hl s)).drop 9) = S2 at *
  generalize ba (s.take 8) = S1 at *
  generalize ba (s.drop (H.hl s)) = S3 at *
  generalize ba s = S at *
  generalize hhe : H.hl s = hl at *
  generalize H.g s 8 - 1 = tl at *
  generalize H.g s 8 = ttl at *
  have j1 : (8 : Int) ≤ (s.length : Int) := by omega
  have j2 : (hl : Int) ≤ (s.length : Int) := by omega
  have j3 : (9 : Int) ≤ (hl : Int) := by omega
  have j4 : IntKind.i64.wrap ((ttl : Int) - 1) = (tl : Int) := by rw [hsub]; exact IntWalk.i64_in _ (by omega)
  have j5 : IntKind.i64.wrap (tl : Int) = (tl : Int) := IntWalk.i64_in _ (by omega)
  have jb : ((ttl : Int) == 0) = false := by simp; omega
  go_enter Tryd.func23, Tryd.ntmps23
  go_wp2_with fail
  refine (Hs.out _).mono ?_
  rintro e w1 hst
  obtain ⟨p, r, vv, rfl, hpl, hpc, hb1⟩ := Hn.out _ _ _ hst
  clear hst Hs Hn
  have Hc : Hid (∀ w' : World, w'.heap[p]? = some (.cells (cs3 r s vv) 71 (0, 0)) → w'.cell? ⟨p, 2, none⟩ = some (.int .i64 (hl : Nat)) ∧ w'.cell? ⟨p, 9, none⟩ = some (.int .i64 (ttl : Nat))) := Lib.hid (fun w' h => Hk.out p r vv w' h)
  clear Hk
  obtain ⟨k2, k9⟩ := Hc.out _ hpc
  have hplt := lt_of_block hpc
  go_upto_region 7 with fail
  have hwr3 : Wr w.heap.size w1.heap.size [] (w1.alloc (.cells #[.bool false, .slice none 0 0] 63)) := ⟨hb1.size, none, 0, heap_alloc_new w1 _, World.ownsRow_nil _ _ _ _⟩
  have hpk3 : (w1.alloc (.cells #[.bool false, .slice none 0 0] 63)).heap[p]? = some (.cells (cs3 r s vv) 71 (0, 0)) := (Below.heap_alloc w1 _ _ hplt).trans hpc
  have hb3w : Below w.heap.size w (w1.alloc (.cells #[.bool false, .slice none 0 0] 63)) := hb1.alloc hb1.size _
  have hNb : p ≠ w1.heap.size := by omega
  generalize (w1.alloc (.cells #[.bool false, .slice none 0 0] 63)) = w3 at *
  generalize w1.heap.size = b at *
  clear hb1 hpc k2 k9
  generalize hN : w.heap.size = N at *
  have hbase : N ≤ w.heap.size := by rw [hN]; exact Nat.le_refl _
  generalize cs3 r s vv = CS at *
  have hrows : rowsB [.val (.pointer (some ⟨b, 0, none⟩)), .val (.string S), .val (.string S1), .row #[.string S1] 9, .val (.pointer (some ⟨b, 0, none⟩)), .val (.pointer (some ⟨p, 0, none⟩)), .val (.pointer (some ⟨p, 0, none⟩)), .val (.pointer (some ⟨p, 4, none⟩)), .val (.pointer (some ⟨p, 9, none⟩)), .val (.int .i64 (ttl : Nat)), .val (.int .i64 (tl : Nat)), .row #[.int .i64 (tl : Nat)] 3, .val (.pointer (some ⟨b, 0, none⟩)), .val (.string S), .val (.pointer (some ⟨p, 0, none⟩)), .val (.pointer (some ⟨p, 0, none⟩)), .val (.pointer (some ⟨p, 2, none⟩)), .val (.int .i64 (hl : Nat)), .val (.string S2), .row #[.string S2] 9, .val (.pointer (some ⟨b, 0, none⟩))] = true := by kernel_rfl
  have e1 : S1.data.toList.length = 8 := by rw [Array.length_toList]; exact z1
  have e2 : S2.data.toList.length = hl - 9 := by rw [Array.length_toList]; exact z2
  have hsum : ([] : List UInt8).length + (([(4, S1.data.toList), (12, [tl].flatMap be1), (20, S2.data.toList)] : List (Nat × List UInt8)).map fun c => c.2.length).sum ≤ 200 := by
    simp only [List.map_cons, List.map_nil, List.sum_cons, List.sum_nil, e1, e2, List.flatMap_cons, List.flatMap_nil, List.length_append, List.length_nil, show ∀ n, (be1 n).length = 1 from fun _ => rfl]
    omega
  refine region_plan' (VS b [.val (.pointer (some ⟨b, 0, none⟩)), .val (.string S), .val (.string S1), .row #[.string S1] 9, .val (.pointer (some ⟨b, 0, none⟩)), .val (.pointer (some ⟨p, 0, none⟩)), .val (.pointer (some ⟨p, 0, none⟩)), .val (.pointer (some ⟨p, 4, none⟩)), .val (.pointer (some ⟨p, 9, none⟩)), .val (.int .i64 (ttl : Nat)), .val (.int .i64 (tl : Nat)), .row #[.int .i64 (tl : Nat)] 3, .val (.pointer (some ⟨b, 0, none⟩)), .val (.string S), .val (.pointer (some ⟨p, 0, none⟩)), .val (.pointer (some ⟨p, 0, none⟩)), .val (.pointer (some ⟨p, 2, none⟩)), .val (.int .i64 (hl : Nat)), .val (.string S2), .row #[.string S2] 9, .val (.pointer (some ⟨b, 0, none⟩))]) (ChS N w p CS 71 b [] [(4, S1.data.toList), (12, [tl].flatMap be1), (20, S2.data.toList)]) (by kernel_rfl) (by kernel_rfl) ⟨hb3w.drew, hpk3, by rw [said_zero]; exact hwr3.draw⟩ ⟨?_, ?_, ?_, ?_, ?_, ?_, ?_, ?_, ?_, ?_, ?_, ?_, ?_, ?_, ?_, ?_, ?_, ?_, ?_, ?_, ?_, trivial⟩ ?_
  · intro listed a' w' hs hS hun hdep
    have e6 : a'.eval (.tmp 6) = .pointer (some ⟨b, 0, none⟩) := (hs.was' 6 (by kernel_rfl)).trans (rfl)
    have hcn := BigFrame.eval_const a'
    have hfn := BigFrame.eval_func a'
    generalize a'.eval = ev at *
    exact plan_val (.pointer (some ⟨b, 0, none⟩)) w' (by go_simp) ⟨rfl, hS.calm 0 (by kernel_rfl), fun _ _ h => h⟩
  · intro listed a' w' hs hS hun hdep
    have e0 : a'.eval (.tmp 0) = .string S := (hs.was' 0 (by kernel_rfl)).trans (rfl)
    have hcn := BigFrame.eval_const a'
    have hfn := BigFrame.eval_func a'
    generalize a'.eval = ev at *
    exact plan_val (.string S) w' (by go_simp) ⟨rfl, hS.calm 1 (by kernel_rfl), fun _ _ h => h⟩
  · intro listed a' w' hs hS hun hdep
    have e26 : a'.eval (.tmp 26) = .string S := hs.eval 1 _ 26 rfl (hdep ⟨1, .data⟩ (by simp) rfl) rfl
    have hcn := BigFrame.eval_const a'
    have hfn := BigFrame.eval_func a'
    generalize a'.eval = ev at *
    exact plan_val (.string S1) w' (by go_simp) ⟨rfl, hS.calm 2 (by kernel_rfl), fun _ _ h => h⟩
  · intro listed a' w' hs hS hun hdep
    have e27 : a'.eval (.tmp 27) = .string S1 := hs.eval 2 _ 27 rfl (hdep ⟨2, .data⟩ (by simp) rfl) rfl
    have hcn := BigFrame.eval_const a'
    have hfn := BigFrame.eval_func a'
    generalize a'.eval = ev at *
    have hlt := hS.lt
    exact plan_val (.slice (some ⟨w'.heap.size, 0, none⟩) 1 1) (w'.alloc (.cells #[.string S1] 9)) (by go_simp) ⟨⟨w'.heap.size, by omega, rfl, heap_alloc_new w' _⟩, hS.below hbase ((Below.refl _ w').alloc (Nat.le_refl _) _) 3 (by kernel_rfl), VS.keep hrows (Spare.alloc b w' _)⟩
  · intro listed a' w' hs hS hun hdep
    have e25 : a'.eval (.tmp 25) = .pointer (some ⟨b, 0, none⟩) := hs.eval 0 _ 25 rfl (hdep ⟨0, .data⟩ (by simp) rfl) rfl
    have r28 : (Spec.row #[.string S1] 9).ok b (a'.eval (.tmp 28)) w' := hs.eval 3 _ 28 rfl (hdep ⟨3, .data⟩ (by simp) rfl) rfl
    generalize hg28 : a'.eval (.tmp 28) = g28 at r28
    have hcn := BigFrame.eval_const a'
    have hfn := BigFrame.eval_func a'
    generalize a'.eval = ev at *
    refine plan_call 45 #[.pointer (some ⟨b, 0, none⟩), g28] w' (by go_simp) ?_
    have n12 := hs.later 4 12 hun _ rfl .data (by simp) rfl
    have n20 := hs.later 12 20 n12 _ rfl .data (by simp) rfl
    have hsd : said [] [(4, S1.data.toList), (12, [tl].flatMap be1), (20, S2.data.toList)] (listed.setIfInBounds 4 true) = said [] [(4, S1.data.toList), (12, [tl].flatMap be1), (20, S2.data.toList)] listed ++ S1.data.toList := said_call [] [] [(12, [tl].flatMap be1), (20, S2.data.toList)] 4 (S1.data.toList) listed (by have := hs.size; simp at this; omega) hun (by kernel_rfl) (by kernel_rfl) (fun c hc => by simp only [List.mem_cons, List.not_mem_nil, or_false] at hc; rcases hc with rfl | rfl <;> first | exact getD_both n12 | exact getD_both n20)
    have hle : (said [] [(4, S1.data.toList), (12, [tl].flatMap be1), (20, S2.data.toList)] listed).length ≤ 200 := Nat.le_trans (said_le _ _ _) hsum
    refine (text_row N b _ S1 g28 #[.string S1] w' hS.wr (by omega) (by omega) rfl r28).mono ?_
    rintro e w'' ⟨rfl, hw, hk⟩
    exact ⟨_, rfl, rfl, hS.call hNb (by decide) hk 4 (by rw [hsd]; exact hw), VS.keep hrows hk.spare⟩
  · intro listed a' w' hs hS hun hdep
    have e4 : a'.eval (.tmp 4) = .pointer (some ⟨p, 0, none⟩) := (hs.was' 4 (by kernel_rfl)).trans (rfl)
    have hcn := BigFrame.eval_const a'
    have hfn := BigFrame.eval_func a'
    generalize a'.eval = ev at *
    exact plan_val (.pointer (some ⟨p, 0, none⟩)) w' (by go_simp) ⟨rfl, hS.calm 5 (by kernel_rfl), fun _ _ h => h⟩
  · intro listed a' w' hs hS hun hdep
    have e30 : a'.eval (.tmp 30) = .pointer (some ⟨p, 0, none⟩) := hs.eval 5 _ 30 rfl (hdep ⟨5, .data⟩ (by simp) rfl) rfl
    have hcn := BigFrame.eval_const a'
    have hfn := BigFrame.eval_func a'
    generalize a'.eval = ev at *
    exact plan_val (.pointer (some ⟨p, 0, none⟩)) w' (by go_simp) ⟨rfl, hS.calm 6 (by kernel_rfl), fun _ _ h => h⟩
  · intro listed a' w' hs hS hun hdep
    have e31 : a'.eval (.tmp 31) = .pointer (some ⟨p, 0, none⟩) := hs.eval 6 _ 31 rfl (hdep ⟨6, .data⟩ (by simp) rfl) rfl
    have hcn := BigFrame.eval_const a'
    have hfn := BigFrame.eval_func a'
    generalize a'.eval = ev at *
    exact plan_val (.pointer (some ⟨p, 4, none⟩)) w' (by go_simp) ⟨rfl, hS.calm 7 (by kernel_rfl), fun _ _ h => h⟩
  · intro listed a' w' hs hS hun hdep
    have e32 : a'.eval (.tmp 32) = .pointer (some ⟨p, 4, none⟩) := hs.eval 7 _ 32 rfl (hdep ⟨7, .data⟩ (by simp) rfl) rfl
    have hcn := BigFrame.eval_const a'
    have hfn := BigFrame.eval_func a'
    generalize a'.eval = ev at *
    exact plan_val (.pointer (some ⟨p, 9, none⟩)) w' (by go_simp) ⟨rfl, hS.calm 8 (by kernel_rfl), fun _ _ h => h⟩
  · intro listed a' w' hs hS hun hdep
    have e33 : a'.eval (.tmp 33) = .pointer (some ⟨p, 9, none⟩) := hs.eval 8 _ 33 rfl (hdep ⟨8, .data⟩ (by simp) rfl) rfl
    have hcn := BigFrame.eval_const a'
    have hfn := BigFrame.eval_func a'
    generalize a'.eval = ev at *
    obtain ⟨k2, k9⟩ := Hc.out _ hS.pk
    exact plan_val (.int .i64 (ttl : Nat)) w' (by go_simp) ⟨rfl, hS.calm 9 (by kernel_rfl), fun _ _ h => h⟩
  · intro listed a' w' hs hS hun hdep
    have e34 : a'.eval (.tmp 34) = .int .i64 (ttl : Nat) := hs.eval 9 _ 34 rfl (hdep ⟨9, .data⟩ (by simp) rfl) rfl
    have hcn := BigFrame.eval_const a'
    have hfn := BigFrame.eval_func a'
    generalize a'.eval = ev at *
    exact plan_val (.int .i64 (tl : Nat)) w' (by go_simp) ⟨rfl, hS.calm 10 (by kernel_rfl), fun _ _ h => h⟩
  · intro listed a' w' hs hS hun hdep
    have e35 : a'.eval (.tmp 35) = .int .i64 (tl : Nat) := hs.eval 10 _ 35 rfl (hdep ⟨10, .data⟩ (by simp) rfl) rfl
    have hcn := BigFrame.eval_const a'
    have hfn := BigFrame.eval_func a'
    generalize a'.eval = ev at *
    have hlt := hS.lt
    exact plan_val (.slice (some ⟨w'.heap.size, 0, none⟩) 1 1) (w'.alloc (.cells #[.int .i64 (tl : Nat)] 3)) (by go_simp) ⟨⟨w'.heap.size, by omega, rfl, heap_alloc_new w' _⟩, hS.below hbase ((Below.refl _ w').alloc (Nat.le_refl _) _) 11 (by kernel_rfl), VS.keep hrows (Spare.alloc b w' _)⟩
  · intro listed a' w' hs hS hun hdep
    have e29 : a'.eval (.tmp 29) = .pointer (some ⟨b, 0, none⟩) := hs.eval 4 _ 29 rfl (hdep ⟨4, .data⟩ (by simp) rfl) rfl
    have r36 : (Spec.row #[.int .i64 (tl : Nat)] 3).ok b (a'.eval (.tmp 36)) w' := hs.eval 11 _ 36 rfl (hdep ⟨11, .data⟩ (by simp) rfl) rfl
    generalize hg36 : a'.eval (.tmp 36) = g36 at r36
    have hcn := BigFrame.eval_const a'
    have hfn := BigFrame.eval_func a'
    generalize a'.eval = ev at *
    refine plan_call 40 #[.pointer (some ⟨b, 0, none⟩), g36] w' (by go_simp) ?_
    have n20 := hs.later 12 20 hun _ rfl .data (by simp) rfl
    have hsd : said [] [(4, S1.data.toList), (12, [tl].flatMap be1), (20, S2.data.toList)] (listed.setIfInBounds 12 true) = said [] [(4, S1.data.toList), (12, [tl].flatMap be1), (20, S2.data.toList)] listed ++ [tl].flatMap be1 := said_call [] [(4, S1.data.toList)] [(20, S2.data.toList)] 12 ([tl].flatMap be1) listed (by have := hs.size; simp at this; omega) hun (by kernel_rfl) (by kernel_rfl) (fun c hc => by simp only [List.mem_cons, List.not_mem_nil, or_false] at hc; rcases hc with rfl <;> first | exact getD_both n20)
    have hle : (said [] [(4, S1.data.toList), (12, [tl].flatMap be1), (20, S2.data.toList)] listed).length ≤ 200 := Nat.le_trans (said_le _ _ _) hsum
    refine (byte_row N b _ [(tl : Int)] _ g36 #[.int .i64 (tl : Nat)] w' hS.wr (by omega) (by simp) rfl r36 (puts_all be1 255 1 (fun _ => rfl) [tl] _ (by intro n hn; simp only [List.mem_cons, List.not_mem_nil, or_false] at hn; omega) (by simp only [List.length_cons, List.length_nil]; omega))).mono ?_
    rintro e w'' ⟨rfl, hw, hk⟩
    exact ⟨_, rfl, rfl, hS.call hNb (by decide) hk 12 (by rw [hsd]; exact hw), VS.keep hrows hk.spare⟩
  · intro listed a' w' hs hS hun hdep
    have e0 : a'.eval (.tmp 0) = .string S := (hs.was' 0 (by kernel_rfl)).trans (rfl)
    have hcn := BigFrame.eval_const a'
    have hfn := BigFrame.eval_func a'
    generalize a'.eval = ev at *
    exact plan_val (.string S) w' (by go_simp) ⟨rfl, hS.calm 13 (by kernel_rfl), fun _ _ h => h⟩
  · intro listed a' w' hs hS hun hdep
    have e4 : a'.eval (.tmp 4) = .pointer (some ⟨p, 0, none⟩) := (hs.was' 4 (by kernel_rfl)).trans (rfl)
    have hcn := BigFrame.eval_const a'
    have hfn := BigFrame.eval_func a'
    generalize a'.eval = ev at *
    exact plan_val (.pointer (some ⟨p, 0, none⟩)) w' (by go_simp) ⟨rfl, hS.calm 14 (by kernel_rfl), fun _ _ h => h⟩
  · intro listed a' w' hs hS hun hdep
    have e39 : a'.eval (.tmp 39) = .pointer (some ⟨p, 0, none⟩) := hs.eval 14 _ 39 rfl (hdep ⟨14, .data⟩ (by simp) rfl) rfl
    have hcn := BigFrame.eval_const a'
    have hfn := BigFrame.eval_func a'
    generalize a'.eval = ev at *
    exact plan_val (.pointer (some ⟨p, 0, none⟩)) w' (by go_simp) ⟨rfl, hS.calm 15 (by kernel_rfl), fun _ _ h => h⟩
  · intro listed a' w' hs hS hun hdep
    have e40 : a'.eval (.tmp 40) = .pointer (some ⟨p, 0, none⟩) := hs.eval 15 _ 40 rfl (hdep ⟨15, .data⟩ (by simp) rfl) rfl
    have hcn := BigFrame.eval_const a'
    have hfn := BigFrame.eval_func a'
    generalize a'.eval = ev at *
    exact plan_val (.pointer (some ⟨p, 2, none⟩)) w' (by go_simp) ⟨rfl, hS.calm 16 (by kernel_rfl), fun _ _ h => h⟩
  · intro listed a' w' hs hS hun hdep
    have e41 : a'.eval (.tmp 41) = .pointer (some ⟨p, 2, none⟩) := hs.eval 16 _ 41 rfl (hdep ⟨16, .data⟩ (by simp) rfl) rfl
    have hcn := BigFrame.eval_const a'
    have hfn := BigFrame.eval_func a'
    generalize a'.eval = ev at *
    obtain ⟨k2, k9⟩ := Hc.out _ hS.pk
    exact plan_val (.int .i64 (hl : Nat)) w' (by go_simp) ⟨rfl, hS.calm 17 (by kernel_rfl), fun _ _ h => h⟩
  · intro listed a' w' hs hS hun hdep
    have e38 : a'.eval (.tmp 38) = .string S := hs.eval 13 _ 38 rfl (hdep ⟨13, .data⟩ (by simp) rfl) rfl
    have e42 : a'.eval (.tmp 42) = .int .i64 (hl : Nat) := hs.eval 17 _ 42 rfl (hdep ⟨17, .data⟩ (by simp) rfl) rfl
    have hcn := BigFrame.eval_const a'
    have hfn := BigFrame.eval_func a'
    generalize a'.eval = ev at *
    exact plan_val (.string S2) w' (by go_simp) ⟨rfl, hS.calm 18 (by kernel_rfl), fun _ _ h => h⟩
  · intro listed a' w' hs hS hun hdep
    have e43 : a'.eval (.tmp 43) = .string S2 := hs.eval 18 _ 43 rfl (hdep ⟨18, .data⟩ (by simp) rfl) rfl
    have hcn := BigFrame.eval_const a'
    have hfn := BigFrame.eval_func a'
    generalize a'.eval = ev at *
    have hlt := hS.lt
    exact plan_val (.slice (some ⟨w'.heap.size, 0, none⟩) 1 1) (w'.alloc (.cells #[.string S2] 9)) (by go_simp) ⟨⟨w'.heap.size, by omega, rfl, heap_alloc_new w' _⟩, hS.below hbase ((Below.refl _ w').alloc (Nat.le_refl _) _) 19 (by kernel_rfl), VS.keep hrows (Spare.alloc b w' _)⟩
  · intro listed a' w' hs hS hun hdep
    have e37 : a'.eval (.tmp 37) = .pointer (some ⟨b, 0, none⟩) := hs.eval 12 _ 37 rfl (hdep ⟨12, .data⟩ (by simp) rfl) rfl
    have r44 : (Spec.row #[.string S2] 9).ok b (a'.eval (.tmp 44)) w' := hs.eval 19 _ 44 rfl (hdep ⟨19, .data⟩ (by simp) rfl) rfl
    generalize hg44 : a'.eval (.tmp 44) = g44 at r44
    have hcn := BigFrame.eval_const a'
    have hfn := BigFrame.eval_func a'
    generalize a'.eval = ev at *
    refine plan_call 45 #[.pointer (some ⟨b, 0, none⟩), g44] w' (by go_simp) ?_
    have hsd : said [] [(4, S1.data.toList), (12, [tl].flatMap be1), (20, S2.data.toList)] (listed.setIfInBounds 20 true) = said [] [(4, S1.data.toList), (12, [tl].flatMap be1), (20, S2.data.toList)] listed ++ S2.data.toList := said_call [] [(4, S1.data.toList), (12, [tl].flatMap be1)] [] 20 (S2.data.toList) listed (by have := hs.size; simp at this; omega) hun (by kernel_rfl) (by kernel_rfl) (fun c hc => by simp at hc)
    have hle : (said [] [(4, S1.data.toList), (12, [tl].flatMap be1), (20, S2.data.toList)] listed).length ≤ 200 := Nat.le_trans (said_le _ _ _) hsum
    refine (text_row N b _ S2 g44 #[.string S2] w' hS.wr (by omega) (by omega) rfl r44).mono ?_
    rintro e w'' ⟨rfl, hw, hk⟩
    exact ⟨_, rfl, rfl, hS.call hNb (by decide) hk 20 (by rw [hsd]; exact hw), VS.keep hrows hk.spare⟩
  intro vs listed w5 hlen' hV hall hS
  match vs, hlen', hV with
  | [v0, v1, v2, v3, v4, v5, v6, v7, v8, v9, v10, v11, v12, v13, v14, v15, v16, v17, v18, v19, v20], _, hV =>
    have q0 : v0 = .pointer (some ⟨b, 0, none⟩) := hV 0 _ rfl
    have q1 : v1 = .string S := hV 1 _ rfl
    have q2 : v2 = .string S1 := hV 2 _ rfl
    obtain ⟨r3, _, q3, _⟩ : (Spec.row #[.string S1] 9).ok b v3 w5 := hV 3 _ rfl
    have q4 : v4 = .pointer (some ⟨b, 0, none⟩) := hV 4 _ rfl
    have q5 : v5 = .pointer (some ⟨p, 0, none⟩) := hV 5 _ rfl
    have q6 : v6 = .pointer (some ⟨p, 0, none⟩) := hV 6 _ rfl
    have q7 : v7 = .pointer (some ⟨p, 4, none⟩) := hV 7 _ rfl
    have q8 : v8 = .pointer (some ⟨p, 9, none⟩) := hV 8 _ rfl
    have q9 : v9 = .int .i64 (ttl : Nat) := hV 9 _ rfl
    have q10 : v10 = .int .i64 (tl : Nat) := hV 10 _ rfl
    obtain ⟨r11, _, q11, _⟩ : (Spec.row #[.int .i64 (tl : Nat)] 3).ok b v11 w5 := hV 11 _ rfl
    have q12 : v12 = .pointer (some ⟨b, 0, none⟩) := hV 12 _ rfl
    have q13 : v13 = .string S := hV 13 _ rfl
    have q14 : v14 = .pointer (some ⟨p, 0, none⟩) := hV 14 _ rfl
    have q15 : v15 = .pointer (some ⟨p, 0, none⟩) := hV 15 _ rfl
    have q16 : v16 = .pointer (some ⟨p, 2, none⟩) := hV 16 _ rfl
    have q17 : v17 = .int .i64 (hl : Nat) := hV 17 _ rfl
    have q18 : v18 = .string S2 := hV 18 _ rfl
    obtain ⟨r19, _, q19, _⟩ : (Spec.row #[.string S2] 9).ok b v19 w5 := hV 19 _ rfl
    have q20 : v20 = .pointer (some ⟨b, 0, none⟩) := hV 20 _ rfl
    have hbel := hS.bel
    have hpk := hS.pk
    have hwr := hS.wr
    rw [said_all _ _ _ (fun c hc => by simp only [List.mem_cons, List.not_mem_nil, or_false] at hc; rcases hc with rfl | rfl | rfl <;> exact hall _ (by simp))] at hwr
    subst q0 q1 q2 q3 q4 q5 q6 q7 q8 q9 q10 q11 q12 q13 q14 q15 q16 q17 q18 q19 q20
    clear hV hall hS
    simp only [lays, Act.put, List.setIfInBounds_toArray, List.set_cons_zero, List.set_cons_succ]
    have hHD : ([] : List UInt8) ++ (([(4, S1.data.toList), (12, [tl].flatMap be1), (20, S2.data.toList)] : List (Nat × List UInt8)).map (·.2)).flatten = HD := by
      rw [Hhead.out]
      simp only [List.map_cons, List.map_nil, List.flatten_cons, List.flatten_nil, List.append_nil, List.nil_append]
    rw [hHD] at hwr
    clear hHD hrows hsum Hhead hb3w hpk3 hwr3
    go_wp2_with fail
    refine (Done_any N b HD w5 hwr (by omega)).mono ?_
    rintro e w6 ⟨rfl, rfl⟩
    clear hwr
    go_wp2_with fail
    refine (put_good (ba HD) 10 _ (by rw [ba_size]; omega) rfl (by rw [ba_size]; omega)).mono ?_
    rintro e w7 ⟨rfl, hb7⟩
    have hpk8 := (hb7.block p (lt_of_block hpk)).trans hpk
    obtain ⟨k2, k9⟩ := Hc.out _ hpk8
    have hbw := hbel.trans (hb7.mono (by have := hbel.size; omega))
    have hsz : (swap (ba HD) 10 (csum (ba HD) 10)).size = hl := by rw [swap_size _ _ _ (by rw [ba_size]; omega), ba_size, hHl]
    clear hpk hpk8 hbel hb7 Hc k9
    go_wp2
    go_ret2
    exact ⟨rfl, by rw [hN]; exact hbw⟩
#print axioms low_go
end Go.Proofs.YtncnildpbccpaaaDoor

namespace Go.Proofs.YtncnildpbccpaaaDoor
open Go.RowKit
set_option linter.unusedVariables false

theorem away_any {w : World} {N : Nat} {ao : Option Addr} {l : List Opt} {a b e f g : Int} {c d : Bool} {s t : Int} {o : Option Addr} {n k : Nat} {x : ByteArray} (hc : w.heap[N]? = some (.cells #[.int .i64 a, .int .i64 b, .bool c, .bool d, .int .i64 e, .int .i64 f, .int .i64 g, .int .u32 s, .int .u32 t, .slice o n k, .string x] 36 (0, 0))) (ho : OptRow w ao l) : OptAway N ao l := by
  rcases ho with ho | ⟨b, off, rfl, hlt, hcc⟩
  · exact .inl ho
  · cases hl : l with
    | nil => exact .inl rfl
    | cons o t =>
      refine .inr fun a ha e => ?_
      cases ha
      simp only at e
      subst e
      obtain ⟨h1, h2⟩ := hcc 0 (by rw [hl]; simp)
      simp only [World.cell?, hc, Nat.zero_mul, Nat.add_zero] at h1 h2
      match off, h1, h2 with
      | 0, _, h2 => simp at h2
      | 1, _, h2 => simp at h2
      | 2, h1, _ => simp at h1
      | 3, h1, _ => simp at h1
      | 4, _, h2 => simp at h2
      | 5, _, h2 => simp at h2
      | 6, _, h2 => simp at h2
      | 7, h1, _ => simp at h1
      | 8, h1, _ => simp at h1
      | 9, h1, _ => simp at h1
      | 10, h1, _ => simp at h1
      | j + 11, h1, _ => simp at h1

set_option maxHeartbeats 400000 in
theorem hlo_long (S : ByteArray) (w : World) (hs : S.size ≤ maxLen) (h : 3000 < S.size) :
    Calls Tryd.prog 7 #[.string S] w fun e w' => e = .returned (.bool true) ∧ Below w.heap.size w w' := by
  unfold maxLen at hs
  go_enter Tryd.func7, Tryd.ntmps7
  go_wp2_with fail
  refine (awake5_any _).mono ?_
  rintro e w1 ⟨rfl, hb⟩
  go_wp2
  go_ret
  exact ⟨rfl, hb⟩

set_option maxHeartbeats 1000000 in
theorem hlo_err (s : List UInt8) (w : World) (hs : s.length ≤ 3000) (n : Nat) (h : H.parse s = .error n) :
    Calls Tryd.prog 7 #[.string (ba s)] w fun e w' => e = .returned (.bool true) ∧ Below w.heap.size w w' := by
  have hn := H.parse_err_ge s n h
  have H1 := Lib.hid (fun w => low_err s w (by omega) n h)
  have H2 := Lib.hid (fun w => refhparse s w (by omega))
  rw [h] at H2
  have hz := ba_size s
  have hne : ((n : Int) != 0) = true := by simp; omega
  clear h
  generalize ba s = S at *
  go_enter Tryd.func7, Tryd.ntmps7
  go_wp2_with fail
  refine (H1.out w).mono ?_
  rintro e w1 ⟨rfl, hb1⟩
  go_wp2_with fail
  refine (H2.out _).mono ?_
  rintro e w2 ⟨rfl, hbn⟩
  have hb2 := hb1.trans (hbn.mono hb1.size)
  clear hbn hb1 H1 H2
  go_wp2_with fail
  refine (awake5_any _).mono ?_
  rintro e w4 ⟨rfl, hbn⟩
  have hb4 := (hb2.alloc hb2.size zeroO).trans (hbn.mono (by have := hb2.size; simp; omega))
  clear hbn hb2
  go_wp2
  go_ret
  exact ⟨rfl, hb4⟩

set_option maxHeartbeats 1000000 in
theorem hlo_live (s : List UInt8) (w : World) (hs : s.length ≤ 3000) (l : List Opt) (h : H.parse s = .ok (H.pkt s l)) (h8 : H.g s 8 = 0) :
    Calls Tryd.prog 7 #[.string (ba s)] w fun e w' => e = .returned (.bool true) ∧ Below w.heap.size w w' := by
  have H1 := Lib.hid (fun w => low_live s w (by omega) l h h8)
  obtain ⟨tos, id, df, mf, off, proto, src, dst, d, hP⟩ : ∃ tos id df mf off proto src dst d, H.pkt s l = ⟨tos, id, df, mf, off, (H.g s 8 : Int), proto, src, dst, l, d⟩ := ⟨_, _, _, _, _, _, _, _, _, rfl⟩
  rw [h8] at hP
  have H2 : Hid (∀ w, Calls Tryd.prog 18 #[.string (ba s)] w fun e w' => ∃ ao cp, e = .returned (.tuple #[pk tos id df mf off 0 proto src dst (.slice ao l.length cp) d, .int .i64 0]) ∧ Below w.heap.size w w') := Lib.hid (fun w => by
    have := refhparse s w (by omega)
    rw [h, hP] at this
    refine this.mono ?_
    rintro e w' ⟨ao, cp, rfl, _, hb⟩
    exact ⟨ao, cp, rfl, hb⟩)
  have hz := ba_size s
  clear h hP
  generalize ba s = S at *
  go_enter Tryd.func7, Tryd.ntmps7
  go_wp2_with fail
  refine (H1.out w).mono ?_
  rintro e w1 ⟨rfl, hb1⟩
  go_wp2_with fail
  refine (H2.out _).mono ?_
  rintro e w2 ⟨ao, cp, rfl, hbn⟩
  have hb2 := hb1.trans (hbn.mono hb1.size)
  clear hbn hb1 H1 H2
  go_wp2_with fail
  refine (awake5_any _).mono ?_
  rintro e w4 ⟨rfl, hbn⟩
  have hb4 := (hb2.alloc hb2.size (pkO tos id df mf off 0 proto src dst (.slice ao l.length cp) d)).trans (hbn.mono (by have := hb2.size; simp; omega))
  clear hbn hb2
  go_wp2
  go_ret
  exact ⟨rfl, hb4⟩

set_option maxHeartbeats 2000000 in
theorem hlo_go (s : List UInt8) (w : World) (hs : s.length ≤ 3000) (l : List Opt) (h : H.parse s = .ok (H.pkt s l)) (h8 : 1 ≤ H.g s 8) :
    Calls Tryd.prog 7 #[.string (ba s)] w fun e w' => e = .returned (.bool true) ∧ Below w.heap.size w w' := by
  obtain ⟨l', hl', hok⟩ := H.parse_inv s _ h
  have : l = l' := congrArg Pkt.opts hl'
  subst this
  obtain ⟨hokt, hpt, hszt⟩ := H.low_ok s l hok h8
  have hll : l.length ≤ 40 := O.parse_len _ _ hok.opts
  have g8 := H.g_lt s 8
  have H1 := Lib.hid (fun w => low_go s w (by omega) l h h8)
  have hlt3 : (H.low s).data.toList.length ≤ 90000 := by rw [Array.length_toList]; show (H.low s).size ≤ 90000; omega
  obtain ⟨tos, id, df, mf, off, proto, src, dst, d, hP⟩ : ∃ tos id df mf off proto src dst d, H.pkt s l = ⟨tos, id, df, mf, off, (H.g s 8 : Int), proto, src, dst, l, d⟩ := ⟨_, _, _, _, _, _, _, _, _, rfl⟩
  have H2 : Hid (∀ w, Calls Tryd.prog 18 #[.string (ba s)] w fun e w' => ∃ ao cp, e = .returned (.tuple #[pk tos id df mf off (H.g s 8 : Int) proto src dst (.slice ao l.length cp) d, .int .i64 0]) ∧ OptRow w' ao l ∧ Below w.heap.size w w') := Lib.hid (fun w => by
    have := refhparse s w (by omega)
    rw [h, hP] at this
    exact this)
  have H3 : Hid (∀ w, Calls Tryd.prog 18 #[.string (H.low s)] w fun e w' => ∃ ao cp, e = .returned (.tuple #[pk tos id df mf off ((H.g s 8 : Int) - 1) proto src dst (.slice ao l.length cp) d, .int .i64 0]) ∧ OptRow w' ao l ∧ Below w.heap.size w w') := Lib.hid (fun w => by
    have := refhparse _ w hlt3
    rw [hokt.parse, hpt, hP, ← ba_of] at this
    exact this)
  have Hs := Lib.hid (fun o1 o2 c1 c2 w h1 h2 => same5_yes tos id df mf off ((H.g s 8 : Int) - 1) proto src dst d o1 o2 c1 c2 l l w h1 h2 (by unfold maxLen; omega) (by unfold maxLen; omega))
  have hsb : sameB l l = true := sameB_refl l
  rw [hsb] at Hs
  have hz := ba_size s
  clear h hl' hok hokt hpt hP hlt3 hsb
  generalize ba s = S at *
  generalize H.low s = Tt at *
  generalize H.g s 8 = ttl at *
  have jb : ((ttl : Int) == 0) = false := by simp; omega
  have j4 : IntKind.i64.wrap ((ttl : Int) - 1) = (ttl : Int) - 1 := IntWalk.i64_in _ (by omega)
  go_enter Tryd.func7, Tryd.ntmps7
  go_wp2_with fail
  refine (H1.out w).mono ?_
  rintro e w1 ⟨rfl, hb1⟩
  go_wp2_with fail
  refine (H2.out _).mono ?_
  rintro e w2 ⟨ao, cp, rfl, hrow1, hbn⟩
  have hb2 := hb1.trans (hbn.mono hb1.size)
  clear hbn hb1 H1 H2
  go_wp2_with fail
  refine (H3.out _).mono ?_
  rintro e w3 ⟨ao2, cp2, rfl, hrow2, hbn⟩
  have hb3 := (hb2.alloc hb2.size (pkO tos id df mf off (ttl : Int) proto src dst (.slice ao l.length cp) d)).trans (hbn.mono (by have := hb2.size; simp; omega))
  have hc : w3.heap[w2.heap.size]? = some (pkO tos id df mf off (ttl : Int) proto src dst (.slice ao l.length cp) d) := (hbn.block w2.heap.size (by simp)).trans (heap_alloc_new w2 _)
  have hrow1' := (hrow1.carry ((Below.refl _ w2).alloc (Nat.le_refl _) _)).carry hbn
  have hlt := lt_of_block hc
  have hlow : w.heap.size ≤ w2.heap.size := hb2.size
  have a1 := away_any hc hrow1'
  have a2 := away_any hc hrow2
  have Hr1 := Lib.hid (fun v X => (hrow1'.set a1 5 v).carry ((Below.refl _ _).alloc (Nat.le_refl _) X))
  have Hr2 := Lib.hid (fun v X => (hrow2.set a2 5 v).carry ((Below.refl _ _).alloc (Nat.le_refl _) X))
  have hcell : ∀ i : Nat, w3.cell? ⟨w2.heap.size, i, none⟩ = (w2.alloc (pkO tos id df mf off (ttl : Int) proto src dst (.slice ao l.length cp) d)).cell? ⟨w2.heap.size, i, none⟩ := fun i => World.cell?_of_block (hc.trans (heap_alloc_new w2 _).symm)
  have hfz : ∀ i : Nat, w3.frozen? ⟨w2.heap.size, i, none⟩ = (w2.alloc (pkO tos id df mf off (ttl : Int) proto src dst (.slice ao l.length cp) d)).frozen? ⟨w2.heap.size, i, none⟩ := fun i => World.frozen?_of_block (hc.trans (heap_alloc_new w2 _).symm)
  clear hbn hc hb2 H3 hrow1 hrow1' hrow2 a1 a2
  go_wp2_with fail
  refine (Hs.out ao ao2 cp cp2 _ (Hr1.out _ _) (Hr2.out _ _)).mono ?_
  rintro e w4 ⟨rfl, hbn⟩
  have hb4 := ((hb3.setCell hlow (.int .i64 ((ttl : Int) - 1))).alloc (by have := hb3.size; simp; omega) (pkO tos id df mf off ((ttl : Int) - 1) proto src dst (.slice ao2 l.length cp2) d)).trans (hbn.mono (by have := hb3.size; simp; omega))
  clear hbn hb3 Hs Hr1 Hr2
  go_wp2_with fail
  refine (awake5_any _).mono ?_
  rintro e w5 ⟨rfl, hbn⟩
  have hb5 := hb4.trans (hbn.mono hb4.size)
  clear hbn hb4
  go_wp2
  go_ret
  exact ⟨rfl, hb5⟩

theorem hlo_all (S : ByteArray) (w : World) (hs : S.size ≤ maxLen) :
    Calls Tryd.prog 7 #[.string S] w fun e w' => e = .returned (.bool true) ∧ Below w.heap.size w w' := by
  by_cases h : 3000 < S.size
  · exact hlo_long S w hs h
  · rw [ba_of S]
    have hl : S.data.toList.length ≤ 3000 := by rw [Array.length_toList]; show S.size ≤ 3000; omega
    cases hp : H.parse S.data.toList with
    | error n => exact hlo_err _ w hl n hp
    | ok k =>
      obtain ⟨l, rfl, ho⟩ := H.parse_inv _ _ hp
      by_cases h8 : H.g S.data.toList 8 = 0
      · exact hlo_live _ w hl l hp h8
      · exact hlo_go _ w hl l hp (by omega)
#print axioms hlo_all
end Go.Proofs.YtncnildpbccpaaaDoor

