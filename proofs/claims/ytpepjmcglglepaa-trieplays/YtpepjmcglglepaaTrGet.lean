/- The walks of what is got of a prefix. -/
import Derived.Test.YtpepjmcglglepaaTrPath
import Derived.Test.YtpepjmcglglepaaQClass
import Derived.Laws.ResultCell
import Derived.RegionTactic
import Derived.StillTailTactics
namespace Go.Proofs.Ytpepjmcglglepaa
open Go.RowKit
set_option maxRecDepth 100000
set_option linter.unusedVariables false
open R

def R.Rt.agg (r : Rt) : Value := .agg #[.int .u32 r.a, .int .i64 r.b, .int .i64 r.o]
theorem TreeR.cells {w : World} {t bn cn cf : Nat} {st : St} {af : Option Addr} (h : TreeR w t st bn cn af cf) {i : Nat} (hi : i < st.nodes.length) :
    w.cell? ⟨bn, i * 6, none⟩ = some (.int .i64 (R.nd st.nodes i).c0) ∧ w.cell? ⟨bn, i * 6 + 1, none⟩ = some (.int .i64 (R.nd st.nodes i).c1) ∧ w.cell? ⟨bn, i * 6 + 2, none⟩ = some (.bool (R.nd st.nodes i).has) ∧
      w.cell? ⟨bn, i * 6 + 3, none⟩ = some (.int .u32 (R.nd st.nodes i).r.a) ∧ w.cell? ⟨bn, i * 6 + 4, none⟩ = some (.int .i64 (R.nd st.nodes i).r.b) ∧ w.cell? ⟨bn, i * 6 + 5, none⟩ = some (.int .i64 (R.nd st.nodes i).r.o) :=
  ⟨h.nd i 0 _ hi rfl, h.nd i 1 _ hi rfl, h.nd i 2 _ hi rfl, h.nd i 3 _ hi rfl, h.nd i 4 _ hi rfl, h.nd i 5 _ hi rfl⟩

/-- A route in a block of the call's own. -/
def RBlk (w : World) (b : Nat) (r : Rt) : Prop := w.heap[b]? = some (.cells #[.int .u32 r.a, .int .i64 r.b, .int .i64 r.o] 31 (0, 0))
theorem RBlk.below {w w' : World} {b : Nat} {r : Rt} (h : RBlk w b r) (hb : Below w.heap.size w w') : RBlk w' b r := (hb.block b (heap_lt h)).trans h
theorem RBlk.cells {w : World} {b : Nat} {r : Rt} (h : RBlk w b r) : w.cell? ⟨b, 0, none⟩ = some (.int .u32 r.a) ∧ w.cell? ⟨b, 1, none⟩ = some (.int .i64 r.b) ∧ w.cell? ⟨b, 2, none⟩ = some (.int .i64 r.o) :=
  ⟨(cell_of_row w b 0 _ _ (0, 0) h).trans rfl, (cell_of_row w b 1 _ _ (0, 0) h).trans rfl, (cell_of_row w b 2 _ _ (0, 0) h).trans rfl⟩
theorem RBlk.free {w : World} {b : Nat} {r : Rt} (h : RBlk w b r) (o : Nat) : w.frozen? ⟨b, o, none⟩ = false := by
  have h' : w.heap[b]? = some (.cells #[.int .u32 r.a, .int .i64 r.b, .int .i64 r.o] 31 (0, 0)) := h
  simp [World.frozen?, h']
theorem RBlk.new (w : World) (r : Rt) : RBlk (w.alloc (.cells #[.int .u32 r.a, .int .i64 r.b, .int .i64 r.o] 31)) w.heap.size r := heap_alloc_new w _

set_option maxHeartbeats 8000000 in
theorem Get_any (X : Nat → Prop) (g : Nat) (st : St) (rs : List Rt) (pl : Nat → Nat → Option Nat) (a : Nat) (b : Int) (w : World) (h : TrieAt X w g st) (hR : Rep st rs pl) (hr : A.right a b = true) (ha : a < 4294967296) (hl : st.nodes.length ≤ 1000000) :
    Calls Try.prog 14 #[.pointer (some ⟨g, 0, none⟩), .agg #[.int .u32 a, .int .i64 b]] w fun e w' => ∃ r ok, e = .returned (.tuple #[Rt.agg r, .bool ok]) ∧ IsGet rs a b r ok ∧ Below w.heap.size w w' := by
  obtain ⟨n, rfl⟩ : ∃ n : Nat, b = n := ⟨b.toNat, by have := right_bits hr; omega⟩
  have hn : n ≤ 32 := by have := right_bits hr; omega
  have hb0 : Below w.heap.size w ((w.alloc (.cells #[.int .u32 a, .int .i64 n] 29)).alloc (.cells #[.int .u32 0, .int .i64 0, .int .i64 0] 31)) := ((Below.refl _ w).alloc (Nat.le_refl _) _).alloc (by simp) _
  obtain ⟨t, k0, _, ht⟩ := (h.below hb0).ptr
  have HT := Lib.hid ht
  have HR := Lib.hid hR
  have Hr := Lib.hid hr
  have Ha := Lib.hid ha
  have HB : Hid (RBlk ((w.alloc (.cells #[.int .u32 a, .int .i64 n] 29)).alloc (.cells #[.int .u32 0, .int .i64 0, .int .i64 0] 31)) (w.heap.size + 1) zR) := Lib.hid (by
    have := RBlk.new (w.alloc (.cells #[.int .u32 a, .int .i64 n] 29)) zR
    rwa [show (w.alloc (.cells #[.int .u32 a, .int .i64 n] 29)).heap.size = w.heap.size + 1 from by simp] at this)
  clear h ht hR hr ha
  go_enter Try.func14, Try.ntmps14
  go_wp2_with fail
  refine (made_any g t _ k0).mono ?_
  rintro e w1 ⟨rfl, rfl⟩
  go_wp2_with fail
  refine (right_any a n _ Ha.out).mono ?_
  rintro e w1 ⟨rfl, hb1⟩
  rw [Hr.out]
  have HT1 := Lib.hid (HT.out.below hb1)
  have HB1 := Lib.hid (HB.out.below hb1)
  have k1 : w1.cell? ⟨g, 0, none⟩ = some (.pointer (some ⟨t, 0, none⟩)) := (World.cell?_of_block (hb1.block g (World.block_lt_of_cell? _ _ k0))).trans k0
  have p0 := cell_kept (b := w.heap.size) (o := 0) (v := .int .u32 a) hb1 (by simp; omega) (by simp)
  have p1 := cell_kept (b := w.heap.size) (o := 1) (v := .int .i64 n) hb1 (by simp; omega) (by simp)
  have hbw1 : Below w.heap.size w w1 := hb0.trans (hb1.mono hb0.size)
  clear HT HB k0 hb1 hb0
  go_wp2
  go_still_tail 5, (by kernel_rfl)
  change wpList _ _ _ _ _ w1.drew
  have HT2 : Hid (TreeAt (fun k => X k ∧ k ≠ g) w1.drew t st) := HT1
  have HB2 : Hid (RBlk w1.drew (w.heap.size + 1) zR) := HB1
  have k2 : w1.drew.cell? ⟨g, 0, none⟩ = some (.pointer (some ⟨t, 0, none⟩)) := k1
  have p02 : w1.drew.cell? ⟨w.heap.size, 0, none⟩ = some (.int .u32 a) := p0
  have p12 : w1.drew.cell? ⟨w.heap.size, 1, none⟩ = some (.int .i64 n) := p1
  have hbw2 := hbw1.drew
  clear HT1 HB1 k1 p0 p1 hbw1
  generalize w1.drew = w2 at *
  go_wp2_with fail
  refine (path_any _ t st rs pl a n w2 HT2.out HR.out hn Ha.out hl).mono ?_
  rintro e w3 ⟨ao, cap, ps, rfl, hrow, hpath, hb3⟩
  have HT3 := Lib.hid (HT2.out.below hb3)
  have HB3 := Lib.hid (HB2.out.below hb3)
  have k3 : w3.cell? ⟨g, 0, none⟩ = some (.pointer (some ⟨t, 0, none⟩)) := (World.cell?_of_block (hb3.block g (World.block_lt_of_cell? _ _ k2))).trans k2
  have p13 : w3.cell? ⟨w.heap.size, 1, none⟩ = some (.int .i64 n) := (World.cell?_of_block (hb3.block _ (World.block_lt_of_cell? _ _ p12))).trans p12
  have hbw3 := hbw2.trans (hb3.mono hbw2.size)
  have HP := Lib.hid hpath
  obtain ⟨bp, rfl, _, hbp, hrow⟩ := hrow
  clear HT2 HB2 k2 p02 p12 hbw2 hb3 hpath
  by_cases hle : ps.length ≤ n
  · have G := Lib.hid (get_short HR.out Hr.out HP.out (by simpa using hle))
    have hle' : (ps.length : Int) ≤ (n : Int) := by omega
    obtain ⟨c0, c1, c2⟩ := HB3.out.cells
    have f0 := HB3.out.free 0
    have f1 := HB3.out.free 1
    have f2 := HB3.out.free 2
    have hlt := heap_lt HB3.out
    clear hrow
    go_wp2
    exact bodyPost_ret (v := .tuple #[Rt.agg zR, .bool false]) (by simp [results, Try.results14, go_sem, c0, c1, c2, Rt.agg, zR]) rfl ⟨zR, false, rfl, G.out, ((hbw3.setCell (by show w.heap.size ≤ w.heap.size + 1; omega) _).setCell (by show w.heap.size ≤ w.heap.size + 1; omega) _).setCell (by show w.heap.size ≤ w.heap.size + 1; omega) _⟩
  · have hlt : n < ps.length := by omega
    have G := Lib.hid (get_full HR.out Hr.out HP.out (by simpa using hlt))
    have hle' : ¬ (ps.length : Int) ≤ (n : Int) := by omega
    have hnl : (n : Int) < (ps.length : Int) := by omega
    have q0 := hrow n hlt
    rw [show ((n : Int)).toNat = n from rfl] at G
    have hil := HR.out.lt _ _ _ (HP.out.at' n hlt)
    generalize ps.getD n 0 = x at *
    obtain ⟨bn, cn, af, cf, hr⟩ := HT3.out.read HR.out.zero
    obtain ⟨n0, n1, n2, n3, n4, n5⟩ := hr.cells hil
    have k4 := hr.c0
    have hxl : (x : Int) < (st.nodes.length : Int) := by omega
    clear hr
    generalize R.nd st.nodes x = N at *
    go_wp2
    have hltg := World.block_lt_of_cell? _ _ k3
    have hlp := World.block_lt_of_cell? _ _ p13
    have hlt' := World.block_lt_of_cell? _ _ k4
    have hln := World.block_lt_of_cell? _ _ n0
    refine region_float_quiet_C (C := fun x => Below w3.heap.size w3 x) 14 7 { dst := some 7, op := Op.alloc 59, type := 0, pos := "trie.go:101", after := #[], guard := none } (.cells #[.int .i64 0, .int .i64 0, .bool false, .int .u32 0, .int .i64 0, .int .i64 0] 59) (by kernel_rfl) rfl rfl (by kernel_rfl) (by intro a w; go_simp) (by kernel_rfl) (old_drewN w3) (old_alloc w3 _) (Below.refl _ _) ?_
    apply Exists.intro
    refine ⟨?_, ?_⟩
    · intro W hW
      have m0 := (hW.cell (p := ⟨g, 0, none⟩) hltg).trans k3
      have m1 := (hW.cell (p := ⟨w.heap.size, 1, none⟩) hlp).trans p13
      have m2 := (hW.cell (p := ⟨t, 0, none⟩) hlt').trans k4
      have m3 := (hW.cell (p := ⟨bp, n, none⟩) hbp).trans q0
      have m4 := (hW.cell (p := ⟨bn, x * 6, none⟩) hln).trans n0
      have m5 := (hW.cell (p := ⟨bn, x * 6 + 1, none⟩) hln).trans n1
      have m6 := (hW.cell (p := ⟨bn, x * 6 + 2, none⟩) hln).trans n2
      have m7 := (hW.cell (p := ⟨bn, x * 6 + 3, none⟩) hln).trans n3
      have m8 := (hW.cell (p := ⟨bn, x * 6 + 4, none⟩) hln).trans n4
      have m9 := (hW.cell (p := ⟨bn, x * 6 + 5, none⟩) hln).trans n5
      clear hW
      simp only [List.take_succ_cons, List.take_zero]
      repeat (go_big_quiet_step (fail))
      exact wpQuiet_nil rfl
    rintro w4 ⟨nr, hw4⟩
    have hbw4 : Below w.heap.size w w4 := by rw [hw4]; exact below_drewN hbw3 nr
    have HB4 : Hid (RBlk w4 (w.heap.size + 1) zR) := Lib.hid (by rw [hw4]; exact HB3.out)
    clear HB3 hbw3 hw4 HT3 hrow q0 n0 n1 n2 n3 n4 n5 k3 k4 p13
    simp only [List.drop_succ_cons, List.drop_zero, Act.put, List.setIfInBounds_toArray, List.set_cons_zero, List.set_cons_succ]
    have hlt4 := heap_lt HB4.out
    obtain ⟨c0, c1, c2⟩ := HB4.out.cells
    have f0 := HB4.out.free 0
    have f1 := HB4.out.free 1
    have f2 := HB4.out.free 2
    go_wp2
    have hbw5 : Below w.heap.size w (w4.alloc (.cells #[.int .i64 N.c0, .int .i64 N.c1, .bool N.has, .int .u32 N.r.a, .int .i64 N.r.b, .int .i64 N.r.o] 59)) := hbw4.alloc hbw4.size _
    have e3 : (w4.alloc (.cells #[.int .i64 N.c0, .int .i64 N.c1, .bool N.has, .int .u32 N.r.a, .int .i64 N.r.b, .int .i64 N.r.o] 59)).cell? ⟨w4.heap.size, 2, none⟩ = some (.bool N.has) := cells_new w4 [.int .i64 N.c0, .int .i64 N.c1, .bool N.has, .int .u32 N.r.a, .int .i64 N.r.b, .int .i64 N.r.o] 59 2 _ rfl
    have e4 : (w4.alloc (.cells #[.int .i64 N.c0, .int .i64 N.c1, .bool N.has, .int .u32 N.r.a, .int .i64 N.r.b, .int .i64 N.r.o] 59)).cell? ⟨w4.heap.size, 3, none⟩ = some (.int .u32 N.r.a) := cells_new w4 [.int .i64 N.c0, .int .i64 N.c1, .bool N.has, .int .u32 N.r.a, .int .i64 N.r.b, .int .i64 N.r.o] 59 3 _ rfl
    have e5 : (w4.alloc (.cells #[.int .i64 N.c0, .int .i64 N.c1, .bool N.has, .int .u32 N.r.a, .int .i64 N.r.b, .int .i64 N.r.o] 59)).cell? ⟨w4.heap.size, 4, none⟩ = some (.int .i64 N.r.b) := cells_new w4 [.int .i64 N.c0, .int .i64 N.c1, .bool N.has, .int .u32 N.r.a, .int .i64 N.r.b, .int .i64 N.r.o] 59 4 _ rfl
    have e6 : (w4.alloc (.cells #[.int .i64 N.c0, .int .i64 N.c1, .bool N.has, .int .u32 N.r.a, .int .i64 N.r.b, .int .i64 N.r.o] 59)).cell? ⟨w4.heap.size, 5, none⟩ = some (.int .i64 N.r.o) := cells_new w4 [.int .i64 N.c0, .int .i64 N.c1, .bool N.has, .int .u32 N.r.a, .int .i64 N.r.b, .int .i64 N.r.o] 59 5 _ rfl
    have HB5 : RBlk (w4.alloc (.cells #[.int .i64 N.c0, .int .i64 N.c1, .bool N.has, .int .u32 N.r.a, .int .i64 N.r.b, .int .i64 N.r.o] 59)) (w.heap.size + 1) zR := (Below.heap_alloc _ _ _ hlt4).trans HB4.out
    clear c0 c1 c2 f0 f1 f2
    have hne : w.heap.size + 1 < w4.heap.size := hlt4
    clear hlt4 hbw4 HB4
    generalize (w4.alloc (.cells #[.int .i64 N.c0, .int .i64 N.c1, .bool N.has, .int .u32 N.r.a, .int .i64 N.r.b, .int .i64 N.r.o] 59)) = w5 at *
    generalize w4.heap.size = b5 at *
    obtain ⟨c0, c1, c2⟩ := HB5.cells
    have f0 := HB5.free 0
    have f1 := HB5.free 1
    have f2 := HB5.free 2
    have hlt5 := heap_lt HB5
    go_region
    all_goals
      go_wp2
      exact bodyPost_ret (v := .tuple #[Rt.agg N.r, .bool N.has]) (by simp [results, Try.results14, go_sem, c0, c1, c2, Rt.agg]) rfl ⟨N.r, N.has, rfl, G.out, (((hbw5.drew).setCell (by show w.heap.size ≤ w.heap.size + 1; omega) _).setCell (by show w.heap.size ≤ w.heap.size + 1; omega) _).setCell (by show w.heap.size ≤ w.heap.size + 1; omega) _⟩
#print axioms Get_any
end Go.Proofs.Ytpepjmcglglepaa
