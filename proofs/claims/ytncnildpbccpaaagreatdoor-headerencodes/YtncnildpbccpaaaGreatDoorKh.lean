/- The walk of a right packet's bytes. -/
import Derived.Test.YtncnildpbccpaaaGreatDoorKg
import Derived.Test.YtncnildpbccpaaaGreatDoorKc
import Derived.Test.YtncnildpbccpaaaGreatDoorKa
set_option maxRecDepth 100000
namespace Go.Proofs.YtncnildpbccpaaaGreatDoor
open Go.RowKit
set_option linter.unusedVariables false

/-- A header with 0 in the place of its check sum, but for its options. -/
def H.head20 (tos id : Nat) (df mf : Bool) (off ttl proto src dst : Nat) (z n : Nat) : List UInt8 :=
  [64 + (20 + z) / 4, tos].flatMap be1 ++ [20 + z + n, id, H.place off df mf].flatMap be2 ++ [ttl, proto].flatMap be1 ++ [0].flatMap be2 ++ [src, dst].flatMap word

theorem H.head20_length (tos id : Nat) (df mf : Bool) (off ttl proto src dst : Nat) (z n : Nat) : (H.head20 tos id df mf off ttl proto src dst z n).length = 20 := rfl

def H.head (tos id : Nat) (df mf : Bool) (off ttl proto src dst : Nat) (l : List Opt) (n : Nat) : List UInt8 :=
  H.head20 tos id df mf off ttl proto src dst (O.size l) n ++ O.enc l

/-- A packet's bytes. -/
def H.enc (tos id : Nat) (df mf : Bool) (off ttl proto src dst : Nat) (l : List Opt) (d : ByteArray) : ByteArray :=
  swap (ba (H.head tos id df mf off ttl proto src dst l d.size)) 10 (csum (ba (H.head tos id df mf off ttl proto src dst l d.size)) 10) ++ d

theorem or_64 (n : Nat) (h : n < 64) : bits .or .i64 64 (n : Int) = ((64 + n : Nat) : Int) := by
  rw [show (64 : Int) = ((64 : Nat) : Int) from rfl, i64_or 64 n (by omega) (by omega)]
  congr 1
  have e : 64 + n = 2 ^ 6 * 1 + n := by omega
  rw [e, Nat.two_pow_add_eq_or_of_lt (by omega)]

theorem H.place_lt (off : Nat) (df mf : Bool) (h : off ≤ 65528) : H.place off df mf < 32768 := by
  unfold H.place
  cases df <;> cases mf <;> simp <;> omega

set_option maxHeartbeats 8000000 in
theorem henc_ok (tos id : Nat) (df mf : Bool) (off ttl proto src dst : Nat) (a : Option Addr) (cap : Nat) (l : List Opt) (d : ByteArray) (w : World) (h : OptRow w a l) (hl : l.length ≤ 60) (hd : ∀ o ∈ l, o.data.size ≤ 100) (hds : d.size ≤ 70000) (hsrc : src < 4294967296) (hdst : dst < 4294967296)
    (hr : H.right tos id off ttl proto l d.size = true) :
    Calls Tryz.prog 6 #[pk tos id df mf off ttl proto src dst (.slice a l.length cap) d] w fun e w' => e = .returned (.tuple #[.string (H.enc tos id df mf off ttl proto src dst l d), .int .i64 0]) ∧ Below w.heap.size w w' := by
  have HR := Lib.hid (fun w' (h' : OptRow w' a l) => hright_any tos id df mf off ttl proto src dst a cap l d w' h' hl hd hds)
  rw [hr] at HR
  have HE := Lib.hid (fun w' (h' : OptRow w' a l) => optEnc_any a cap l w' h' hl hd)
  have hr' := hr
  unfold H.right at hr'
  simp only [Bool.and_eq_true, decide_eq_true_eq] at hr'
  obtain ⟨⟨⟨hA, hz40⟩, hin⟩, hmod⟩ := hr'
  obtain ⟨⟨_, i1⟩, ⟨_, i2⟩, ⟨_, i3⟩, ⟨_, i4⟩, ⟨_, i5⟩, ⟨_, i6⟩, _⟩ := hin
  rw [O.encoded_yes l (by rw [hA]; simp; exact hz40)] at HE
  have HZ := Lib.hid (fun w' (h' : OptRow w' a l) => hsize_any tos id df mf off ttl proto src dst a cap l d w' h' hl hd hds)
  have HL := Lib.hid (fun w' => place_any tos id df mf off ttl proto src dst (.slice a l.length cap) d w' (by omega))
  have hLt := H.place_lt off df mf (by omega)
  have Hout : Hid (H.enc tos id df mf off ttl proto src dst l d = swap (ba (H.head tos id df mf off ttl proto src dst l d.size)) 10 (csum (ba (H.head tos id df mf off ttl proto src dst l d.size)) 10) ++ d) := Lib.hid rfl
  have Hhd : Hid (H.head tos id df mf off ttl proto src dst l d.size = [64 + (20 + O.size l) / 4, tos].flatMap be1 ++ [20 + O.size l + d.size, id, H.place off df mf].flatMap be2 ++ [ttl, proto].flatMap be1 ++ [0].flatMap be2 ++ [src, dst].flatMap word ++ O.enc l) := Lib.hid rfl
  have hhl : (H.head tos id df mf off ttl proto src dst l d.size).length = 20 + O.size l := by unfold H.head; rw [List.length_append, H.head20_length, O.enc_length]
  have hEs : (⟨(O.enc l).toArray⟩ : ByteArray).size = O.size l := by show (O.enc l).toArray.size = _; simp [O.enc_length]
  have Hel : Hid ((⟨(O.enc l).toArray⟩ : ByteArray).data.toList = O.enc l) := Lib.hid (by simp)
  rw [Hout.out]
  clear hr hA hd hl Hout hmod
  generalize H.head tos id df mf off ttl proto src dst l d.size = HD at *
  generalize (⟨(O.enc l).toArray⟩ : ByteArray) = E at *
  generalize O.enc l = el at *
  have hW : (20 + O.size l) / 4 ≤ 15 := by omega
  generalize O.size l = z at *
  have hdiv : (20 + (z : Int)) / 4 = (((20 + z) / 4 : Nat) : Int) := by omega
  have hor := or_64 ((20 + z) / 4) (by omega)
  have hZ : 20 + z + d.size ≤ 65535 := by omega
  generalize hL : H.place off df mf = L at *
  clear hL
  generalize hWe : (20 + z) / 4 = W at *
  clear hWe
  generalize hW4 : 64 + W = W4 at *
  have hW4' : W4 ≤ 255 := by omega
  clear hW4
  generalize hZe : 20 + z + d.size = Z at *
  have Hc : Hid (∀ w' : World, w'.heap[w.heap.size]? = some (pkO tos id df mf off ttl proto src dst (.slice a l.length cap) d) → w'.cell? ⟨w.heap.size, 0, none⟩ = some (.int .i64 (tos : Nat)) ∧ w'.cell? ⟨w.heap.size, 1, none⟩ = some (.int .i64 (id : Nat)) ∧ w'.cell? ⟨w.heap.size, 2, none⟩ = some (.bool df) ∧ w'.cell? ⟨w.heap.size, 3, none⟩ = some (.bool mf) ∧ w'.cell? ⟨w.heap.size, 4, none⟩ = some (.int .i64 (off : Nat)) ∧ w'.cell? ⟨w.heap.size, 5, none⟩ = some (.int .i64 (ttl : Nat)) ∧ w'.cell? ⟨w.heap.size, 6, none⟩ = some (.int .i64 (proto : Nat)) ∧ w'.cell? ⟨w.heap.size, 7, none⟩ = some (.int .u32 (src : Nat)) ∧ w'.cell? ⟨w.heap.size, 8, none⟩ = some (.int .u32 (dst : Nat)) ∧ w'.cell? ⟨w.heap.size, 9, none⟩ = some (.slice a l.length cap) ∧ w'.cell? ⟨w.heap.size, 10, none⟩ = some (.string d)) :=
    Lib.hid fun w' hw' => by simp [World.cell?, hw']
  have hpk0 : (w.alloc (pkO tos id df mf off ttl proto src dst (.slice a l.length cap) d)).heap[w.heap.size]? = some (pkO tos id df mf off ttl proto src dst (.slice a l.length cap) d) := heap_alloc_new w _
  have hb0 : Below w.heap.size w (w.alloc (pkO tos id df mf off ttl proto src dst (.slice a l.length cap) d)) := (Below.refl _ w).alloc (Nat.le_refl _) _
  go_enter Tryz.func6, Tryz.ntmps6
  go_wp2_with fail
  refine (HR.out _ (h.carry hb0)).mono ?_
  rintro e w1 ⟨rfl, hb1⟩
  have hb1w := hb0.trans (hb1.mono hb0.size)
  have hpk1 := (hb1.block w.heap.size (lt_of_block hpk0)).trans hpk0
  obtain ⟨k0, k1, k2, k3, k4, k5, k6, k7, k8, k9, k10⟩ := Hc.out _ hpk1
  clear HR hb0 hb1 hpk0
  go_wp2_with fail
  refine (HE.out _ (h.carry hb1w)).mono ?_
  rintro e w2 ⟨rfl, hb2⟩
  have hb2w := hb1w.trans (hb2.mono hb1w.size)
  have hpk2 := (hb2.block w.heap.size (lt_of_block hpk1)).trans hpk1
  clear HE hb1w hb2 hpk1 k0 k1 k2 k3 k4 k5 k6 k7 k8 k9 k10
  have hj : IntKind.i64.wrap (20 + (z : Int)) = 20 + (z : Int) := IntWalk.i64_in _ (by omega)
  go_upto_region 6 with fail
  have hwr3 : Wr w.heap.size w2.heap.size [] (w2.alloc (.cells #[.bool false, .slice none 0 0] 42)) := ⟨hb2w.size, none, 0, heap_alloc_new w2 _, World.ownsRow_nil _ _ _ _⟩
  have hpk3 : (w2.alloc (.cells #[.bool false, .slice none 0 0] 42)).heap[w.heap.size]? = some (pkO tos id df mf off ttl proto src dst (.slice a l.length cap) d) := (Below.heap_alloc w2 _ _ (lt_of_block hpk2)).trans hpk2
  have hb3w : Below w.heap.size w (w2.alloc (.cells #[.bool false, .slice none 0 0] 42)) := hb2w.alloc hb2w.size _
  have hNb : w.heap.size ≠ w2.heap.size := by have := lt_of_block hpk2; omega
  generalize (w2.alloc (.cells #[.bool false, .slice none 0 0] 42)) = w3 at *
  generalize w2.heap.size = b at *
  clear hb2w hpk2
  generalize hN : w.heap.size = N at *
  have hbase : N ≤ w.heap.size := by rw [hN]; exact Nat.le_refl _
  have hrows : rowsB [.val (.pointer (some ⟨b, 0, none⟩)), .val (.int .i64 (W : Nat)), .val (.int .i64 (W4 : Nat)), .val (.pointer (some ⟨N, 0, none⟩)), .val (.int .i64 (tos : Nat)), .row #[.int .i64 (W4 : Nat), .int .i64 (tos : Nat)] 3, .val (.pointer (some ⟨b, 0, none⟩)), .val (pk tos id df mf off ttl proto src dst (.slice a l.length cap) d), .val (.int .i64 (Z : Nat)), .val (.pointer (some ⟨N, 1, none⟩)), .val (.int .i64 (id : Nat)), .val (pk tos id df mf off ttl proto src dst (.slice a l.length cap) d), .val (.int .i64 (L : Nat)), .row #[.int .i64 (Z : Nat), .int .i64 (id : Nat), .int .i64 (L : Nat)] 3, .val (.pointer (some ⟨b, 0, none⟩))] = true := by kernel_rfl
  have hsum : ([] : List UInt8).length + (([(6, [W4, tos].flatMap be1), (14, [Z, id, L].flatMap be2)] : List (Nat × List UInt8)).map fun c => c.2.length).sum ≤ 200 := by simp [be1, be2]
  refine region_plan' (VS b [.val (.pointer (some ⟨b, 0, none⟩)), .val (.int .i64 (W : Nat)), .val (.int .i64 (W4 : Nat)), .val (.pointer (some ⟨N, 0, none⟩)), .val (.int .i64 (tos : Nat)), .row #[.int .i64 (W4 : Nat), .int .i64 (tos : Nat)] 3, .val (.pointer (some ⟨b, 0, none⟩)), .val (pk tos id df mf off ttl proto src dst (.slice a l.length cap) d), .val (.int .i64 (Z : Nat)), .val (.pointer (some ⟨N, 1, none⟩)), .val (.int .i64 (id : Nat)), .val (pk tos id df mf off ttl proto src dst (.slice a l.length cap) d), .val (.int .i64 (L : Nat)), .row #[.int .i64 (Z : Nat), .int .i64 (id : Nat), .int .i64 (L : Nat)] 3, .val (.pointer (some ⟨b, 0, none⟩))]) (ChS N w N #[.int .i64 (tos : Nat), .int .i64 (id : Nat), .bool df, .bool mf, .int .i64 (off : Nat), .int .i64 (ttl : Nat), .int .i64 (proto : Nat), .int .u32 (src : Nat), .int .u32 (dst : Nat), .slice a l.length cap, .string d] 25 b [] [(6, [W4, tos].flatMap be1), (14, [Z, id, L].flatMap be2)]) (by kernel_rfl) (by kernel_rfl) ⟨hb3w.drew, hpk3, by rw [said_zero]; exact hwr3.draw⟩ ⟨?_, ?_, ?_, ?_, ?_, ?_, ?_, ?_, ?_, ?_, ?_, ?_, ?_, ?_, ?_, trivial⟩ ?_
  · intro listed a' w' hs hS hun hdep
    have e7 : a'.eval (.tmp 7) = .pointer (some ⟨b, 0, none⟩) := (hs.was' 7 (by kernel_rfl)).trans (rfl)
    have hcn := BigFrame.eval_const a'
    have hfn := BigFrame.eval_func a'
    generalize a'.eval = ev at *
    exact plan_val (.pointer (some ⟨b, 0, none⟩)) w' (by go_simp) ⟨rfl, hS.calm 0 (by kernel_rfl), fun _ _ h => h⟩
  · intro listed a' w' hs hS hun hdep
    have e6 : a'.eval (.tmp 6) = .int .i64 (W : Nat) := (hs.was' 6 (by kernel_rfl)).trans (show Value.int .i64 ((20 + (z : Int)) / 4) = _ from by rw [hdiv])
    have hcn := BigFrame.eval_const a'
    have hfn := BigFrame.eval_func a'
    generalize a'.eval = ev at *
    exact plan_val (.int .i64 (W : Nat)) w' (by go_simp) ⟨rfl, hS.calm 1 (by kernel_rfl), fun _ _ h => h⟩
  · intro listed a' w' hs hS hun hdep
    have e27 : a'.eval (.tmp 27) = .int .i64 (W : Nat) := hs.eval 1 _ 27 rfl (hdep ⟨1, .data⟩ (by simp) rfl) rfl
    have hcn := BigFrame.eval_const a'
    have hfn := BigFrame.eval_func a'
    generalize a'.eval = ev at *
    exact plan_val (.int .i64 (W4 : Nat)) w' (by go_simp) ⟨rfl, hS.calm 2 (by kernel_rfl), fun _ _ h => h⟩
  · intro listed a' w' hs hS hun hdep
    have e1 : a'.eval (.tmp 1) = .pointer (some ⟨N, 0, none⟩) := (hs.was' 1 (by kernel_rfl)).trans (rfl)
    have hcn := BigFrame.eval_const a'
    have hfn := BigFrame.eval_func a'
    generalize a'.eval = ev at *
    exact plan_val (.pointer (some ⟨N, 0, none⟩)) w' (by go_simp) ⟨rfl, hS.calm 3 (by kernel_rfl), fun _ _ h => h⟩
  · intro listed a' w' hs hS hun hdep
    have e29 : a'.eval (.tmp 29) = .pointer (some ⟨N, 0, none⟩) := hs.eval 3 _ 29 rfl (hdep ⟨3, .data⟩ (by simp) rfl) rfl
    have hcn := BigFrame.eval_const a'
    have hfn := BigFrame.eval_func a'
    generalize a'.eval = ev at *
    obtain ⟨k0, k1, k2, k3, k4, k5, k6, k7, k8, k9, k10⟩ := Hc.out _ hS.pk
    exact plan_val (.int .i64 (tos : Nat)) w' (by go_simp) ⟨rfl, hS.calm 4 (by kernel_rfl), fun _ _ h => h⟩
  · intro listed a' w' hs hS hun hdep
    have e28 : a'.eval (.tmp 28) = .int .i64 (W4 : Nat) := hs.eval 2 _ 28 rfl (hdep ⟨2, .data⟩ (by simp) rfl) rfl
    have e30 : a'.eval (.tmp 30) = .int .i64 (tos : Nat) := hs.eval 4 _ 30 rfl (hdep ⟨4, .data⟩ (by simp) rfl) rfl
    have hcn := BigFrame.eval_const a'
    have hfn := BigFrame.eval_func a'
    generalize a'.eval = ev at *
    have hlt := hS.lt
    exact plan_val (.slice (some ⟨w'.heap.size, 0, none⟩) 2 2) (w'.alloc (.cells #[.int .i64 (W4 : Nat), .int .i64 (tos : Nat)] 3)) (by go_simp) ⟨⟨w'.heap.size, by omega, rfl, heap_alloc_new w' _⟩, hS.below hbase ((Below.refl _ w').alloc (Nat.le_refl _) _) 5 (by kernel_rfl), VS.keep hrows (Spare.alloc b w' _)⟩
  · intro listed a' w' hs hS hun hdep
    have e26 : a'.eval (.tmp 26) = .pointer (some ⟨b, 0, none⟩) := hs.eval 0 _ 26 rfl (hdep ⟨0, .data⟩ (by simp) rfl) rfl
    have r31 : (Spec.row #[.int .i64 (W4 : Nat), .int .i64 (tos : Nat)] 3).ok b (a'.eval (.tmp 31)) w' := hs.eval 5 _ 31 rfl (hdep ⟨5, .data⟩ (by simp) rfl) rfl
    generalize hg31 : a'.eval (.tmp 31) = g31 at r31
    have hcn := BigFrame.eval_const a'
    have hfn := BigFrame.eval_func a'
    generalize a'.eval = ev at *
    refine plan_call 15 #[.pointer (some ⟨b, 0, none⟩), g31] w' (by go_simp) ?_
    have n14 := hs.later 6 14 hun _ rfl .data (by simp) rfl
    have hsd : said [] [(6, [W4, tos].flatMap be1), (14, [Z, id, L].flatMap be2)] (listed.setIfInBounds 6 true) = said [] [(6, [W4, tos].flatMap be1), (14, [Z, id, L].flatMap be2)] listed ++ [W4, tos].flatMap be1 := said_call [] [] [(14, [Z, id, L].flatMap be2)] 6 ([W4, tos].flatMap be1) listed (by have := hs.size; simp at this; omega) hun (by kernel_rfl) (by kernel_rfl) (fun c hc => by simp only [List.mem_cons, List.not_mem_nil, or_false] at hc; rcases hc with rfl <;> first | exact getD_both n14)
    have hle : (said [] [(6, [W4, tos].flatMap be1), (14, [Z, id, L].flatMap be2)] listed).length ≤ 200 := Nat.le_trans (said_le _ _ _) hsum
    refine (byte_row N b _ [(W4 : Int), (tos : Int)] _ g31 #[.int .i64 (W4 : Nat), .int .i64 (tos : Nat)] w' hS.wr (by omega) (by simp) rfl r31 (puts_all be1 255 1 (fun _ => rfl) [W4, tos] _ (by intro n hn; simp only [List.mem_cons, List.not_mem_nil, or_false] at hn; omega) (by simp only [List.length_cons, List.length_nil]; omega))).mono ?_
    rintro e w'' ⟨rfl, hw, hk⟩
    exact ⟨_, rfl, rfl, hS.call hNb (by decide) hk 6 (by rw [hsd]; exact hw), VS.keep hrows hk.spare⟩
  · intro listed a' w' hs hS hun hdep
    have e1 : a'.eval (.tmp 1) = .pointer (some ⟨N, 0, none⟩) := (hs.was' 1 (by kernel_rfl)).trans (rfl)
    have hcn := BigFrame.eval_const a'
    have hfn := BigFrame.eval_func a'
    generalize a'.eval = ev at *
    obtain ⟨k0, k1, k2, k3, k4, k5, k6, k7, k8, k9, k10⟩ := Hc.out _ hS.pk
    exact plan_val (pk tos id df mf off ttl proto src dst (.slice a l.length cap) d) w' (by go_simp) ⟨rfl, hS.calm 7 (by kernel_rfl), fun _ _ h => h⟩
  · intro listed a' w' hs hS hun hdep
    have e33 : a'.eval (.tmp 33) = pk tos id df mf off ttl proto src dst (.slice a l.length cap) d := hs.eval 7 _ 33 rfl (hdep ⟨7, .data⟩ (by simp) rfl) rfl
    have hcn := BigFrame.eval_const a'
    have hfn := BigFrame.eval_func a'
    generalize a'.eval = ev at *
    refine plan_call 11 #[pk tos id df mf off ttl proto src dst (.slice a l.length cap) d] w' (by go_simp) ?_
    refine (HZ.out w' (h.carry (by rw [hN]; exact hS.bel))).mono ?_
    rintro e w'' ⟨rfl, hb⟩
    exact ⟨_, rfl, rfl, hS.below hbase hb 8 (by kernel_rfl), VS.keep hrows (Spare.of_below hb)⟩
  · intro listed a' w' hs hS hun hdep
    have e1 : a'.eval (.tmp 1) = .pointer (some ⟨N, 0, none⟩) := (hs.was' 1 (by kernel_rfl)).trans (rfl)
    have hcn := BigFrame.eval_const a'
    have hfn := BigFrame.eval_func a'
    generalize a'.eval = ev at *
    exact plan_val (.pointer (some ⟨N, 1, none⟩)) w' (by go_simp) ⟨rfl, hS.calm 9 (by kernel_rfl), fun _ _ h => h⟩
  · intro listed a' w' hs hS hun hdep
    have e35 : a'.eval (.tmp 35) = .pointer (some ⟨N, 1, none⟩) := hs.eval 9 _ 35 rfl (hdep ⟨9, .data⟩ (by simp) rfl) rfl
    have hcn := BigFrame.eval_const a'
    have hfn := BigFrame.eval_func a'
    generalize a'.eval = ev at *
    obtain ⟨k0, k1, k2, k3, k4, k5, k6, k7, k8, k9, k10⟩ := Hc.out _ hS.pk
    exact plan_val (.int .i64 (id : Nat)) w' (by go_simp) ⟨rfl, hS.calm 10 (by kernel_rfl), fun _ _ h => h⟩
  · intro listed a' w' hs hS hun hdep
    have e1 : a'.eval (.tmp 1) = .pointer (some ⟨N, 0, none⟩) := (hs.was' 1 (by kernel_rfl)).trans (rfl)
    have hcn := BigFrame.eval_const a'
    have hfn := BigFrame.eval_func a'
    generalize a'.eval = ev at *
    obtain ⟨k0, k1, k2, k3, k4, k5, k6, k7, k8, k9, k10⟩ := Hc.out _ hS.pk
    exact plan_val (pk tos id df mf off ttl proto src dst (.slice a l.length cap) d) w' (by go_simp) ⟨rfl, hS.calm 11 (by kernel_rfl), fun _ _ h => h⟩
  · intro listed a' w' hs hS hun hdep
    have e37 : a'.eval (.tmp 37) = pk tos id df mf off ttl proto src dst (.slice a l.length cap) d := hs.eval 11 _ 37 rfl (hdep ⟨11, .data⟩ (by simp) rfl) rfl
    have hcn := BigFrame.eval_const a'
    have hfn := BigFrame.eval_func a'
    generalize a'.eval = ev at *
    refine plan_call 17 #[pk tos id df mf off ttl proto src dst (.slice a l.length cap) d] w' (by go_simp) ?_
    refine (HL.out w').mono ?_
    rintro e w'' ⟨rfl, hb⟩
    exact ⟨_, rfl, rfl, hS.below hbase hb 12 (by kernel_rfl), VS.keep hrows (Spare.of_below hb)⟩
  · intro listed a' w' hs hS hun hdep
    have e34 : a'.eval (.tmp 34) = .int .i64 (Z : Nat) := hs.eval 8 _ 34 rfl (hdep ⟨8, .data⟩ (by simp) rfl) rfl
    have e36 : a'.eval (.tmp 36) = .int .i64 (id : Nat) := hs.eval 10 _ 36 rfl (hdep ⟨10, .data⟩ (by simp) rfl) rfl
    have e38 : a'.eval (.tmp 38) = .int .i64 (L : Nat) := hs.eval 12 _ 38 rfl (hdep ⟨12, .data⟩ (by simp) rfl) rfl
    have hcn := BigFrame.eval_const a'
    have hfn := BigFrame.eval_func a'
    generalize a'.eval = ev at *
    have hlt := hS.lt
    exact plan_val (.slice (some ⟨w'.heap.size, 0, none⟩) 3 3) (w'.alloc (.cells #[.int .i64 (Z : Nat), .int .i64 (id : Nat), .int .i64 (L : Nat)] 3)) (by go_simp) ⟨⟨w'.heap.size, by omega, rfl, heap_alloc_new w' _⟩, hS.below hbase ((Below.refl _ w').alloc (Nat.le_refl _) _) 13 (by kernel_rfl), VS.keep hrows (Spare.alloc b w' _)⟩
  · intro listed a' w' hs hS hun hdep
    have e32 : a'.eval (.tmp 32) = .pointer (some ⟨b, 0, none⟩) := hs.eval 6 _ 32 rfl (hdep ⟨6, .data⟩ (by simp) rfl) rfl
    have r39 : (Spec.row #[.int .i64 (Z : Nat), .int .i64 (id : Nat), .int .i64 (L : Nat)] 3).ok b (a'.eval (.tmp 39)) w' := hs.eval 13 _ 39 rfl (hdep ⟨13, .data⟩ (by simp) rfl) rfl
    generalize hg39 : a'.eval (.tmp 39) = g39 at r39
    have hcn := BigFrame.eval_const a'
    have hfn := BigFrame.eval_func a'
    generalize a'.eval = ev at *
    refine plan_call 16 #[.pointer (some ⟨b, 0, none⟩), g39] w' (by go_simp) ?_
    have hsd : said [] [(6, [W4, tos].flatMap be1), (14, [Z, id, L].flatMap be2)] (listed.setIfInBounds 14 true) = said [] [(6, [W4, tos].flatMap be1), (14, [Z, id, L].flatMap be2)] listed ++ [Z, id, L].flatMap be2 := said_call [] [(6, [W4, tos].flatMap be1)] [] 14 ([Z, id, L].flatMap be2) listed (by have := hs.size; simp at this; omega) hun (by kernel_rfl) (by kernel_rfl) (fun c hc => by simp at hc)
    have hle : (said [] [(6, [W4, tos].flatMap be1), (14, [Z, id, L].flatMap be2)] listed).length ≤ 200 := Nat.le_trans (said_le _ _ _) hsum
    refine (short_row N b _ [(Z : Int), (id : Int), (L : Int)] _ g39 #[.int .i64 (Z : Nat), .int .i64 (id : Nat), .int .i64 (L : Nat)] w' hS.wr (by omega) (by simp) rfl r39 (puts_all be2 65535 2 (fun _ => rfl) [Z, id, L] _ (by intro n hn; simp only [List.mem_cons, List.not_mem_nil, or_false] at hn; omega) (by simp only [List.length_cons, List.length_nil]; omega))).mono ?_
    rintro e w'' ⟨rfl, hw, hk⟩
    exact ⟨_, rfl, rfl, hS.call hNb (by decide) hk 14 (by rw [hsd]; exact hw), VS.keep hrows hk.spare⟩
  intro vs listed w4 hlen hV hall hS
  match vs, hlen, hV with
  | [v6_0, v6_1, v6_2, v6_3, v6_4, v6_5, v6_6, v6_7, v6_8, v6_9, v6_10, v6_11, v6_12, v6_13, v6_14], _, hV =>
    have q0 : v6_0 = .pointer (some ⟨b, 0, none⟩) := hV 0 _ rfl
    have q1 : v6_1 = .int .i64 (W : Nat) := hV 1 _ rfl
    have q2 : v6_2 = .int .i64 (W4 : Nat) := hV 2 _ rfl
    have q3 : v6_3 = .pointer (some ⟨N, 0, none⟩) := hV 3 _ rfl
    have q4 : v6_4 = .int .i64 (tos : Nat) := hV 4 _ rfl
    obtain ⟨r6_5, _, q5, _⟩ : (Spec.row #[.int .i64 (W4 : Nat), .int .i64 (tos : Nat)] 3).ok b v6_5 w4 := hV 5 _ rfl
    have q6 : v6_6 = .pointer (some ⟨b, 0, none⟩) := hV 6 _ rfl
    have q7 : v6_7 = pk tos id df mf off ttl proto src dst (.slice a l.length cap) d := hV 7 _ rfl
    have q8 : v6_8 = .int .i64 (Z : Nat) := hV 8 _ rfl
    have q9 : v6_9 = .pointer (some ⟨N, 1, none⟩) := hV 9 _ rfl
    have q10 : v6_10 = .int .i64 (id : Nat) := hV 10 _ rfl
    have q11 : v6_11 = pk tos id df mf off ttl proto src dst (.slice a l.length cap) d := hV 11 _ rfl
    have q12 : v6_12 = .int .i64 (L : Nat) := hV 12 _ rfl
    obtain ⟨r6_13, _, q13, _⟩ : (Spec.row #[.int .i64 (Z : Nat), .int .i64 (id : Nat), .int .i64 (L : Nat)] 3).ok b v6_13 w4 := hV 13 _ rfl
    have q14 : v6_14 = .pointer (some ⟨b, 0, none⟩) := hV 14 _ rfl
    have hbel6 := hS.bel
    have hpk6 := hS.pk
    have hwr6 := hS.wr
    rw [said_all _ _ _ (fun c hc => by simp only [List.mem_cons, List.not_mem_nil, or_false] at hc; rcases hc with rfl | rfl <;> exact hall _ (by simp))] at hwr6
    subst q0 q1 q2 q3 q4 q5 q6 q7 q8 q9 q10 q11 q12 q13 q14
    clear hV hall hS
    simp only [lays, Act.put, List.setIfInBounds_toArray, List.set_cons_zero, List.set_cons_succ]
    have hm6 : ([] : List UInt8) ++ (([(6, [W4, tos].flatMap be1), (14, [Z, id, L].flatMap be2)] : List (Nat × List UInt8)).map (·.2)).flatten = [W4, tos].flatMap be1 ++ [Z, id, L].flatMap be2 := by simp
    rw [hm6] at hwr6
    have hm6l : ([W4, tos].flatMap be1 ++ [Z, id, L].flatMap be2).length = 8 := rfl
    clear hm6 hrows hsum hb3w hpk3 hwr3 HZ HL
    go_upto_region 7 with fail
    have hE2 : E.data.toList.length = z := by rw [Array.length_toList]; exact hEs
    generalize hm6e : [W4, tos].flatMap be1 ++ [Z, id, L].flatMap be2 = m6 at *
    have hrows : rowsB [.val (.pointer (some ⟨b, 0, none⟩)), .val (.pointer (some ⟨N, 5, none⟩)), .val (.int .i64 (ttl : Nat)), .val (.pointer (some ⟨N, 6, none⟩)), .val (.int .i64 (proto : Nat)), .row #[.int .i64 (ttl : Nat), .int .i64 (proto : Nat)] 3, .val (.pointer (some ⟨b, 0, none⟩)), .row #[.int .i64 0] 3, .val (.pointer (some ⟨b, 0, none⟩)), .val (.pointer (some ⟨N, 7, none⟩)), .val (.int .u32 (src : Nat)), .val (.pointer (some ⟨N, 8, none⟩)), .val (.int .u32 (dst : Nat)), .row #[.int .u32 (src : Nat), .int .u32 (dst : Nat)] 22, .val (.pointer (some ⟨b, 0, none⟩)), .val (.string E), .row #[.string E] 9, .val (.pointer (some ⟨b, 0, none⟩))] = true := by kernel_rfl
    have hsum : m6.length + (([(6, [ttl, proto].flatMap be1), (8, [0].flatMap be2), (14, [src, dst].flatMap word), (17, E.data.toList)] : List (Nat × List UInt8)).map fun c => c.2.length).sum ≤ 200 := by simp only [List.map_cons, List.map_nil, List.sum_cons, List.sum_nil, hE2, hm6l, List.flatMap_cons, List.flatMap_nil, List.length_append, List.length_nil, show ∀ n, (be1 n).length = 1 from fun _ => rfl, show ∀ n, (be2 n).length = 2 from fun _ => rfl, show ∀ n, (word n).length = 4 from fun _ => rfl]; omega
    refine region_plan' (VS b [.val (.pointer (some ⟨b, 0, none⟩)), .val (.pointer (some ⟨N, 5, none⟩)), .val (.int .i64 (ttl : Nat)), .val (.pointer (some ⟨N, 6, none⟩)), .val (.int .i64 (proto : Nat)), .row #[.int .i64 (ttl : Nat), .int .i64 (proto : Nat)] 3, .val (.pointer (some ⟨b, 0, none⟩)), .row #[.int .i64 0] 3, .val (.pointer (some ⟨b, 0, none⟩)), .val (.pointer (some ⟨N, 7, none⟩)), .val (.int .u32 (src : Nat)), .val (.pointer (some ⟨N, 8, none⟩)), .val (.int .u32 (dst : Nat)), .row #[.int .u32 (src : Nat), .int .u32 (dst : Nat)] 22, .val (.pointer (some ⟨b, 0, none⟩)), .val (.string E), .row #[.string E] 9, .val (.pointer (some ⟨b, 0, none⟩))]) (ChS N w N #[.int .i64 (tos : Nat), .int .i64 (id : Nat), .bool df, .bool mf, .int .i64 (off : Nat), .int .i64 (ttl : Nat), .int .i64 (proto : Nat), .int .u32 (src : Nat), .int .u32 (dst : Nat), .slice a l.length cap, .string d] 25 b m6 [(6, [ttl, proto].flatMap be1), (8, [0].flatMap be2), (14, [src, dst].flatMap word), (17, E.data.toList)]) (by kernel_rfl) (by kernel_rfl) ⟨hbel6.drew, hpk6, by rw [said_zero]; exact hwr6.draw⟩ ⟨?_, ?_, ?_, ?_, ?_, ?_, ?_, ?_, ?_, ?_, ?_, ?_, ?_, ?_, ?_, ?_, ?_, ?_, trivial⟩ ?_
    · intro listed a' w' hs hS hun hdep
      have e7 : a'.eval (.tmp 7) = .pointer (some ⟨b, 0, none⟩) := (hs.was' 7 (by kernel_rfl)).trans (rfl)
      have hcn := BigFrame.eval_const a'
      have hfn := BigFrame.eval_func a'
      generalize a'.eval = ev at *
      exact plan_val (.pointer (some ⟨b, 0, none⟩)) w' (by go_simp) ⟨rfl, hS.calm 0 (by kernel_rfl), fun _ _ h => h⟩
    · intro listed a' w' hs hS hun hdep
      have e1 : a'.eval (.tmp 1) = .pointer (some ⟨N, 0, none⟩) := (hs.was' 1 (by kernel_rfl)).trans (rfl)
      have hcn := BigFrame.eval_const a'
      have hfn := BigFrame.eval_func a'
      generalize a'.eval = ev at *
      exact plan_val (.pointer (some ⟨N, 5, none⟩)) w' (by go_simp) ⟨rfl, hS.calm 1 (by kernel_rfl), fun _ _ h => h⟩
    · intro listed a' w' hs hS hun hdep
      have e42 : a'.eval (.tmp 42) = .pointer (some ⟨N, 5, none⟩) := hs.eval 1 _ 42 rfl (hdep ⟨1, .data⟩ (by simp) rfl) rfl
      have hcn := BigFrame.eval_const a'
      have hfn := BigFrame.eval_func a'
      generalize a'.eval = ev at *
      obtain ⟨k0, k1, k2, k3, k4, k5, k6, k7, k8, k9, k10⟩ := Hc.out _ hS.pk
      exact plan_val (.int .i64 (ttl : Nat)) w' (by go_simp) ⟨rfl, hS.calm 2 (by kernel_rfl), fun _ _ h => h⟩
    · intro listed a' w' hs hS hun hdep
      have e1 : a'.eval (.tmp 1) = .pointer (some ⟨N, 0, none⟩) := (hs.was' 1 (by kernel_rfl)).trans (rfl)
      have hcn := BigFrame.eval_const a'
      have hfn := BigFrame.eval_func a'
      generalize a'.eval = ev at *
      exact plan_val (.pointer (some ⟨N, 6, none⟩)) w' (by go_simp) ⟨rfl, hS.calm 3 (by kernel_rfl), fun _ _ h => h⟩
    · intro listed a' w' hs hS hun hdep
      have e44 : a'.eval (.tmp 44) = .pointer (some ⟨N, 6, none⟩) := hs.eval 3 _ 44 rfl (hdep ⟨3, .data⟩ (by simp) rfl) rfl
      have hcn := BigFrame.eval_const a'
      have hfn := BigFrame.eval_func a'
      generalize a'.eval = ev at *
      obtain ⟨k0, k1, k2, k3, k4, k5, k6, k7, k8, k9, k10⟩ := Hc.out _ hS.pk
      exact plan_val (.int .i64 (proto : Nat)) w' (by go_simp) ⟨rfl, hS.calm 4 (by kernel_rfl), fun _ _ h => h⟩
    · intro listed a' w' hs hS hun hdep
      have e43 : a'.eval (.tmp 43) = .int .i64 (ttl : Nat) := hs.eval 2 _ 43 rfl (hdep ⟨2, .data⟩ (by simp) rfl) rfl
      have e45 : a'.eval (.tmp 45) = .int .i64 (proto : Nat) := hs.eval 4 _ 45 rfl (hdep ⟨4, .data⟩ (by simp) rfl) rfl
      have hcn := BigFrame.eval_const a'
      have hfn := BigFrame.eval_func a'
      generalize a'.eval = ev at *
      have hlt := hS.lt
      exact plan_val (.slice (some ⟨w'.heap.size, 0, none⟩) 2 2) (w'.alloc (.cells #[.int .i64 (ttl : Nat), .int .i64 (proto : Nat)] 3)) (by go_simp) ⟨⟨w'.heap.size, by omega, rfl, heap_alloc_new w' _⟩, hS.below hbase ((Below.refl _ w').alloc (Nat.le_refl _) _) 5 (by kernel_rfl), VS.keep hrows (Spare.alloc b w' _)⟩
    · intro listed a' w' hs hS hun hdep
      have e41 : a'.eval (.tmp 41) = .pointer (some ⟨b, 0, none⟩) := hs.eval 0 _ 41 rfl (hdep ⟨0, .data⟩ (by simp) rfl) rfl
      have r46 : (Spec.row #[.int .i64 (ttl : Nat), .int .i64 (proto : Nat)] 3).ok b (a'.eval (.tmp 46)) w' := hs.eval 5 _ 46 rfl (hdep ⟨5, .data⟩ (by simp) rfl) rfl
      generalize hg46 : a'.eval (.tmp 46) = g46 at r46
      have hcn := BigFrame.eval_const a'
      have hfn := BigFrame.eval_func a'
      generalize a'.eval = ev at *
      refine plan_call 15 #[.pointer (some ⟨b, 0, none⟩), g46] w' (by go_simp) ?_
      have n8 := hs.later 6 8 hun _ rfl .data (by simp) rfl
      have n14 := hs.later 8 14 n8 _ rfl .data (by simp) rfl
      have n17 := hs.later 14 17 n14 _ rfl .data (by simp) rfl
      have hsd : said m6 [(6, [ttl, proto].flatMap be1), (8, [0].flatMap be2), (14, [src, dst].flatMap word), (17, E.data.toList)] (listed.setIfInBounds 6 true) = said m6 [(6, [ttl, proto].flatMap be1), (8, [0].flatMap be2), (14, [src, dst].flatMap word), (17, E.data.toList)] listed ++ [ttl, proto].flatMap be1 := said_call m6 [] [(8, [0].flatMap be2), (14, [src, dst].flatMap word), (17, E.data.toList)] 6 ([ttl, proto].flatMap be1) listed (by have := hs.size; simp at this; omega) hun (by kernel_rfl) (by kernel_rfl) (fun c hc => by simp only [List.mem_cons, List.not_mem_nil, or_false] at hc; rcases hc with rfl | rfl | rfl <;> first | exact getD_both n8 | exact getD_both n14 | exact getD_both n17)
      have hle : (said m6 [(6, [ttl, proto].flatMap be1), (8, [0].flatMap be2), (14, [src, dst].flatMap word), (17, E.data.toList)] listed).length ≤ 200 := Nat.le_trans (said_le _ _ _) hsum
      refine (byte_row N b _ [(ttl : Int), (proto : Int)] _ g46 #[.int .i64 (ttl : Nat), .int .i64 (proto : Nat)] w' hS.wr (by omega) (by simp) rfl r46 (puts_all be1 255 1 (fun _ => rfl) [ttl, proto] _ (by intro n hn; simp only [List.mem_cons, List.not_mem_nil, or_false] at hn; omega) (by simp only [List.length_cons, List.length_nil]; omega))).mono ?_
      rintro e w'' ⟨rfl, hw, hk⟩
      exact ⟨_, rfl, rfl, hS.call hNb (by decide) hk 6 (by rw [hsd]; exact hw), VS.keep hrows hk.spare⟩
    · intro listed a' w' hs hS hun hdep
      have hcn := BigFrame.eval_const a'
      have hfn := BigFrame.eval_func a'
      generalize a'.eval = ev at *
      have hlt := hS.lt
      exact plan_val (.slice (some ⟨w'.heap.size, 0, none⟩) 1 1) (w'.alloc (.cells #[.int .i64 0] 3)) (by go_simp) ⟨⟨w'.heap.size, by omega, rfl, heap_alloc_new w' _⟩, hS.below hbase ((Below.refl _ w').alloc (Nat.le_refl _) _) 7 (by kernel_rfl), VS.keep hrows (Spare.alloc b w' _)⟩
    · intro listed a' w' hs hS hun hdep
      have e47 : a'.eval (.tmp 47) = .pointer (some ⟨b, 0, none⟩) := hs.eval 6 _ 47 rfl (hdep ⟨6, .data⟩ (by simp) rfl) rfl
      have r48 : (Spec.row #[.int .i64 0] 3).ok b (a'.eval (.tmp 48)) w' := hs.eval 7 _ 48 rfl (hdep ⟨7, .data⟩ (by simp) rfl) rfl
      generalize hg48 : a'.eval (.tmp 48) = g48 at r48
      have hcn := BigFrame.eval_const a'
      have hfn := BigFrame.eval_func a'
      generalize a'.eval = ev at *
      refine plan_call 16 #[.pointer (some ⟨b, 0, none⟩), g48] w' (by go_simp) ?_
      have n14 := hs.later 8 14 hun _ rfl .data (by simp) rfl
      have n17 := hs.later 14 17 n14 _ rfl .data (by simp) rfl
      have hsd : said m6 [(6, [ttl, proto].flatMap be1), (8, [0].flatMap be2), (14, [src, dst].flatMap word), (17, E.data.toList)] (listed.setIfInBounds 8 true) = said m6 [(6, [ttl, proto].flatMap be1), (8, [0].flatMap be2), (14, [src, dst].flatMap word), (17, E.data.toList)] listed ++ [0].flatMap be2 := said_call m6 [(6, [ttl, proto].flatMap be1)] [(14, [src, dst].flatMap word), (17, E.data.toList)] 8 ([0].flatMap be2) listed (by have := hs.size; simp at this; omega) hun (by kernel_rfl) (by kernel_rfl) (fun c hc => by simp only [List.mem_cons, List.not_mem_nil, or_false] at hc; rcases hc with rfl | rfl <;> first | exact getD_both n14 | exact getD_both n17)
      have hle : (said m6 [(6, [ttl, proto].flatMap be1), (8, [0].flatMap be2), (14, [src, dst].flatMap word), (17, E.data.toList)] listed).length ≤ 200 := Nat.le_trans (said_le _ _ _) hsum
      refine (short_row N b _ [0] _ g48 #[.int .i64 0] w' hS.wr (by omega) (by simp) rfl r48 (puts_all be2 65535 2 (fun _ => rfl) [0] _ (by intro n hn; simp only [List.mem_cons, List.not_mem_nil, or_false] at hn; omega) (by simp only [List.length_cons, List.length_nil]; omega))).mono ?_
      rintro e w'' ⟨rfl, hw, hk⟩
      exact ⟨_, rfl, rfl, hS.call hNb (by decide) hk 8 (by rw [hsd]; exact hw), VS.keep hrows hk.spare⟩
    · intro listed a' w' hs hS hun hdep
      have e1 : a'.eval (.tmp 1) = .pointer (some ⟨N, 0, none⟩) := (hs.was' 1 (by kernel_rfl)).trans (rfl)
      have hcn := BigFrame.eval_const a'
      have hfn := BigFrame.eval_func a'
      generalize a'.eval = ev at *
      exact plan_val (.pointer (some ⟨N, 7, none⟩)) w' (by go_simp) ⟨rfl, hS.calm 9 (by kernel_rfl), fun _ _ h => h⟩
    · intro listed a' w' hs hS hun hdep
      have e50 : a'.eval (.tmp 50) = .pointer (some ⟨N, 7, none⟩) := hs.eval 9 _ 50 rfl (hdep ⟨9, .data⟩ (by simp) rfl) rfl
      have hcn := BigFrame.eval_const a'
      have hfn := BigFrame.eval_func a'
      generalize a'.eval = ev at *
      obtain ⟨k0, k1, k2, k3, k4, k5, k6, k7, k8, k9, k10⟩ := Hc.out _ hS.pk
      exact plan_val (.int .u32 (src : Nat)) w' (by go_simp) ⟨rfl, hS.calm 10 (by kernel_rfl), fun _ _ h => h⟩
    · intro listed a' w' hs hS hun hdep
      have e1 : a'.eval (.tmp 1) = .pointer (some ⟨N, 0, none⟩) := (hs.was' 1 (by kernel_rfl)).trans (rfl)
      have hcn := BigFrame.eval_const a'
      have hfn := BigFrame.eval_func a'
      generalize a'.eval = ev at *
      exact plan_val (.pointer (some ⟨N, 8, none⟩)) w' (by go_simp) ⟨rfl, hS.calm 11 (by kernel_rfl), fun _ _ h => h⟩
    · intro listed a' w' hs hS hun hdep
      have e52 : a'.eval (.tmp 52) = .pointer (some ⟨N, 8, none⟩) := hs.eval 11 _ 52 rfl (hdep ⟨11, .data⟩ (by simp) rfl) rfl
      have hcn := BigFrame.eval_const a'
      have hfn := BigFrame.eval_func a'
      generalize a'.eval = ev at *
      obtain ⟨k0, k1, k2, k3, k4, k5, k6, k7, k8, k9, k10⟩ := Hc.out _ hS.pk
      exact plan_val (.int .u32 (dst : Nat)) w' (by go_simp) ⟨rfl, hS.calm 12 (by kernel_rfl), fun _ _ h => h⟩
    · intro listed a' w' hs hS hun hdep
      have e51 : a'.eval (.tmp 51) = .int .u32 (src : Nat) := hs.eval 10 _ 51 rfl (hdep ⟨10, .data⟩ (by simp) rfl) rfl
      have e53 : a'.eval (.tmp 53) = .int .u32 (dst : Nat) := hs.eval 12 _ 53 rfl (hdep ⟨12, .data⟩ (by simp) rfl) rfl
      have hcn := BigFrame.eval_const a'
      have hfn := BigFrame.eval_func a'
      generalize a'.eval = ev at *
      have hlt := hS.lt
      exact plan_val (.slice (some ⟨w'.heap.size, 0, none⟩) 2 2) (w'.alloc (.cells #[.int .u32 (src : Nat), .int .u32 (dst : Nat)] 22)) (by go_simp) ⟨⟨w'.heap.size, by omega, rfl, heap_alloc_new w' _⟩, hS.below hbase ((Below.refl _ w').alloc (Nat.le_refl _) _) 13 (by kernel_rfl), VS.keep hrows (Spare.alloc b w' _)⟩
    · intro listed a' w' hs hS hun hdep
      have e49 : a'.eval (.tmp 49) = .pointer (some ⟨b, 0, none⟩) := hs.eval 8 _ 49 rfl (hdep ⟨8, .data⟩ (by simp) rfl) rfl
      have r54 : (Spec.row #[.int .u32 (src : Nat), .int .u32 (dst : Nat)] 22).ok b (a'.eval (.tmp 54)) w' := hs.eval 13 _ 54 rfl (hdep ⟨13, .data⟩ (by simp) rfl) rfl
      generalize hg54 : a'.eval (.tmp 54) = g54 at r54
      have hcn := BigFrame.eval_const a'
      have hfn := BigFrame.eval_func a'
      generalize a'.eval = ev at *
      refine plan_call 18 #[.pointer (some ⟨b, 0, none⟩), g54] w' (by go_simp) ?_
      have n17 := hs.later 14 17 hun _ rfl .data (by simp) rfl
      have hsd : said m6 [(6, [ttl, proto].flatMap be1), (8, [0].flatMap be2), (14, [src, dst].flatMap word), (17, E.data.toList)] (listed.setIfInBounds 14 true) = said m6 [(6, [ttl, proto].flatMap be1), (8, [0].flatMap be2), (14, [src, dst].flatMap word), (17, E.data.toList)] listed ++ [src, dst].flatMap word := said_call m6 [(6, [ttl, proto].flatMap be1), (8, [0].flatMap be2)] [(17, E.data.toList)] 14 ([src, dst].flatMap word) listed (by have := hs.size; simp at this; omega) hun (by kernel_rfl) (by kernel_rfl) (fun c hc => by simp only [List.mem_cons, List.not_mem_nil, or_false] at hc; rcases hc with rfl <;> first | exact getD_both n17)
      have hle : (said m6 [(6, [ttl, proto].flatMap be1), (8, [0].flatMap be2), (14, [src, dst].flatMap word), (17, E.data.toList)] listed).length ≤ 200 := Nat.le_trans (said_le _ _ _) hsum
      refine (word_row N b _ [src, dst] _ g54 #[.int .u32 (src : Nat), .int .u32 (dst : Nat)] w' hS.wr (by omega) (by simp) (by intro n hn; simp only [List.mem_cons, List.not_mem_nil, or_false] at hn; omega) rfl r54 (putsW_all [src, dst] _ (by simp only [List.length_cons, List.length_nil]; omega))).mono ?_
      rintro e w'' ⟨rfl, hw, hk⟩
      exact ⟨_, rfl, rfl, hS.call hNb (by decide) hk 14 (by rw [hsd]; exact hw), VS.keep hrows hk.spare⟩
    · intro listed a' w' hs hS hun hdep
      have e4 : a'.eval (.tmp 4) = .string E := (hs.was' 4 (by kernel_rfl)).trans (rfl)
      have hcn := BigFrame.eval_const a'
      have hfn := BigFrame.eval_func a'
      generalize a'.eval = ev at *
      exact plan_val (.string E) w' (by go_simp) ⟨rfl, hS.calm 15 (by kernel_rfl), fun _ _ h => h⟩
    · intro listed a' w' hs hS hun hdep
      have e56 : a'.eval (.tmp 56) = .string E := hs.eval 15 _ 56 rfl (hdep ⟨15, .data⟩ (by simp) rfl) rfl
      have hcn := BigFrame.eval_const a'
      have hfn := BigFrame.eval_func a'
      generalize a'.eval = ev at *
      have hlt := hS.lt
      exact plan_val (.slice (some ⟨w'.heap.size, 0, none⟩) 1 1) (w'.alloc (.cells #[.string E] 9)) (by go_simp) ⟨⟨w'.heap.size, by omega, rfl, heap_alloc_new w' _⟩, hS.below hbase ((Below.refl _ w').alloc (Nat.le_refl _) _) 16 (by kernel_rfl), VS.keep hrows (Spare.alloc b w' _)⟩
    · intro listed a' w' hs hS hun hdep
      have e55 : a'.eval (.tmp 55) = .pointer (some ⟨b, 0, none⟩) := hs.eval 14 _ 55 rfl (hdep ⟨14, .data⟩ (by simp) rfl) rfl
      have r57 : (Spec.row #[.string E] 9).ok b (a'.eval (.tmp 57)) w' := hs.eval 16 _ 57 rfl (hdep ⟨16, .data⟩ (by simp) rfl) rfl
      generalize hg57 : a'.eval (.tmp 57) = g57 at r57
      have hcn := BigFrame.eval_const a'
      have hfn := BigFrame.eval_func a'
      generalize a'.eval = ev at *
      refine plan_call 19 #[.pointer (some ⟨b, 0, none⟩), g57] w' (by go_simp) ?_
      have hsd : said m6 [(6, [ttl, proto].flatMap be1), (8, [0].flatMap be2), (14, [src, dst].flatMap word), (17, E.data.toList)] (listed.setIfInBounds 17 true) = said m6 [(6, [ttl, proto].flatMap be1), (8, [0].flatMap be2), (14, [src, dst].flatMap word), (17, E.data.toList)] listed ++ E.data.toList := said_call m6 [(6, [ttl, proto].flatMap be1), (8, [0].flatMap be2), (14, [src, dst].flatMap word)] [] 17 (E.data.toList) listed (by have := hs.size; simp at this; omega) hun (by kernel_rfl) (by kernel_rfl) (fun c hc => by simp at hc)
      have hle : (said m6 [(6, [ttl, proto].flatMap be1), (8, [0].flatMap be2), (14, [src, dst].flatMap word), (17, E.data.toList)] listed).length ≤ 200 := Nat.le_trans (said_le _ _ _) hsum
      refine (text_row N b _ E g57 #[.string E] w' hS.wr (by omega) (by omega) rfl r57).mono ?_
      rintro e w'' ⟨rfl, hw, hk⟩
      exact ⟨_, rfl, rfl, hS.call hNb (by decide) hk 17 (by rw [hsd]; exact hw), VS.keep hrows hk.spare⟩
    intro vs listed w5 hlen hV hall hS
    match vs, hlen, hV with
    | [v7_0, v7_1, v7_2, v7_3, v7_4, v7_5, v7_6, v7_7, v7_8, v7_9, v7_10, v7_11, v7_12, v7_13, v7_14, v7_15, v7_16, v7_17], _, hV =>
      have q0 : v7_0 = .pointer (some ⟨b, 0, none⟩) := hV 0 _ rfl
      have q1 : v7_1 = .pointer (some ⟨N, 5, none⟩) := hV 1 _ rfl
      have q2 : v7_2 = .int .i64 (ttl : Nat) := hV 2 _ rfl
      have q3 : v7_3 = .pointer (some ⟨N, 6, none⟩) := hV 3 _ rfl
      have q4 : v7_4 = .int .i64 (proto : Nat) := hV 4 _ rfl
      obtain ⟨r7_5, _, q5, _⟩ : (Spec.row #[.int .i64 (ttl : Nat), .int .i64 (proto : Nat)] 3).ok b v7_5 w5 := hV 5 _ rfl
      have q6 : v7_6 = .pointer (some ⟨b, 0, none⟩) := hV 6 _ rfl
      obtain ⟨r7_7, _, q7, _⟩ : (Spec.row #[.int .i64 0] 3).ok b v7_7 w5 := hV 7 _ rfl
      have q8 : v7_8 = .pointer (some ⟨b, 0, none⟩) := hV 8 _ rfl
      have q9 : v7_9 = .pointer (some ⟨N, 7, none⟩) := hV 9 _ rfl
      have q10 : v7_10 = .int .u32 (src : Nat) := hV 10 _ rfl
      have q11 : v7_11 = .pointer (some ⟨N, 8, none⟩) := hV 11 _ rfl
      have q12 : v7_12 = .int .u32 (dst : Nat) := hV 12 _ rfl
      obtain ⟨r7_13, _, q13, _⟩ : (Spec.row #[.int .u32 (src : Nat), .int .u32 (dst : Nat)] 22).ok b v7_13 w5 := hV 13 _ rfl
      have q14 : v7_14 = .pointer (some ⟨b, 0, none⟩) := hV 14 _ rfl
      have q15 : v7_15 = .string E := hV 15 _ rfl
      obtain ⟨r7_16, _, q16, _⟩ : (Spec.row #[.string E] 9).ok b v7_16 w5 := hV 16 _ rfl
      have q17 : v7_17 = .pointer (some ⟨b, 0, none⟩) := hV 17 _ rfl
      have hbel7 := hS.bel
      have hpk7 := hS.pk
      have hwr7 := hS.wr
      rw [said_all _ _ _ (fun c hc => by simp only [List.mem_cons, List.not_mem_nil, or_false] at hc; rcases hc with rfl | rfl | rfl | rfl <;> exact hall _ (by simp))] at hwr7
      subst q0 q1 q2 q3 q4 q5 q6 q7 q8 q9 q10 q11 q12 q13 q14 q15 q16 q17
      clear hV hall hS
      simp only [lays, Act.put, List.setIfInBounds_toArray, List.set_cons_zero, List.set_cons_succ]
      have hHD : m6 ++ (([(6, [ttl, proto].flatMap be1), (8, [0].flatMap be2), (14, [src, dst].flatMap word), (17, E.data.toList)] : List (Nat × List UInt8)).map (·.2)).flatten = HD := by
        rw [Hhd.out, ← hm6e, Hel.out]
        simp only [List.map_cons, List.map_nil, List.flatten_cons, List.flatten_nil, List.append_nil, List.append_assoc]
      rw [hHD] at hwr7
      clear hHD hrows hsum hbel6 hpk6 hwr6 hm6e Hhd Hel
      go_wp2_with fail
      refine (Done_any N b HD w5 hwr7 (by omega)).mono ?_
      rintro e w6 ⟨rfl, rfl⟩
      clear hwr7
      go_wp2_with fail
      refine (put_good (ba HD) 10 _ (by rw [ba_size]; omega) rfl (by rw [ba_size]; omega)).mono ?_
      rintro e w7 ⟨rfl, hb7⟩
      have hpk8 := (hb7.block N (lt_of_block hpk7)).trans hpk7
      obtain ⟨k0, k1, k2, k3, k4, k5, k6, k7, k8, k9, k10⟩ := Hc.out _ hpk8
      have hbw := hbel7.trans (hb7.mono (by have := lt_of_block hpk7; omega))
      have hsz : (swap (ba HD) 10 (csum (ba HD) 10)).size = 20 + z := by rw [swap_size _ _ _ (by rw [ba_size]; omega), ba_size, hhl]
      clear hpk7 hpk8 hbel7 hb7 Hc k0 k1 k2 k3 k4 k5 k6 k7 k8 k9
      go_wp2
      go_ret2
      exact ⟨rfl, by rw [hN]; exact hbw⟩
#print axioms henc_ok
end Go.Proofs.YtncnildpbccpaaaGreatDoor

namespace Go.Proofs.YtncnildpbccpaaaGreatDoor
open Go.RowKit

/-- A reader of a datagram: what it holds, and what is left. -/
structure Hd (base p r : Nat) (s : List UInt8) (k : Nat) (cs : Array Value) (w : World) : Prop where
  low : base ≤ p
  ne : p ≠ r
  cell : w.heap[p]? = some (.cells cs 62 (0, 0))
  rd : Rd base r ((H.rst s k).map ba) w

theorem Hd.at {base p r : Nat} {s : List UInt8} {k : Nat} {cs : Array Value} {w : World} (h : Hd base p r s k cs w) (i : Nat) (v : Value) (hv : cs[i]? = some v) : w.cell? ⟨p, i, none⟩ = some v := by
  simp only [World.cell?, h.cell]; exact hv
theorem Hd.fz {base p r : Nat} {s : List UInt8} {k : Nat} {cs : Array Value} {w : World} (h : Hd base p r s k cs w) (i : Nat) : w.frozen? ⟨p, i, none⟩ = false := by
  simp [World.frozen?, h.cell]
theorem Hd.lt {base p r : Nat} {s : List UInt8} {k : Nat} {cs : Array Value} {w : World} (h : Hd base p r s k cs w) : p < w.heap.size := lt_of_block h.cell

theorem Hd.store {base p r : Nat} {s : List UInt8} {k : Nat} {cs : Array Value} {w : World} (h : Hd base p r s k cs w) (i : Nat) (v : Value) (cs' : Array Value) (he : cs.setIfInBounds i v = cs') : Hd base p r s k cs' (w.setCell ⟨p, i, none⟩ v) ∧ Below base w (w.setCell ⟨p, i, none⟩ v) := by
  refine ⟨⟨h.low, h.ne, ?_, ⟨h.rd.low, ?_⟩⟩, (Below.refl _ _).setCell h.low _⟩
  · have hlt := h.lt
    have h' : w.heap[p] = .cells cs 62 (0, 0) := by simpa [Array.getElem?_eq_getElem hlt] using h.cell
    show (w.heap.modify p _)[p]? = _
    rw [Array.getElem?_eq_getElem (by simpa using hlt), Array.getElem_modify_self, h', ← he]
    rfl
  · rw [Below.heap_setCell _ _ _ _ (fun e => h.ne e.symm)]; exact h.rd.cells

theorem Hd.draw {base p r : Nat} {s : List UInt8} {k : Nat} {cs : Array Value} {w : World} (h : Hd base p r s k cs w) : Hd base p r s k cs w.drew := ⟨h.low, h.ne, h.cell, ⟨h.rd.low, h.rd.cells⟩⟩

theorem Hd.read {base p r : Nat} {s : List UInt8} {k k' : Nat} {cs : Array Value} {w w' : World} (h : Hd base p r s k cs w) (hg : w.grownBy w' (some r)) (hr : Rd base r ((H.rst s k').map ba) w') : Hd base p r s k' cs w' ∧ Below base w w' := by
  refine ⟨⟨h.low, h.ne, ?_, hr⟩, grown_below hg h.rd.low (by have := lt_of_block h.rd.cells; have := h.rd.low; omega)⟩
  rw [hg.block p h.lt (by intro e; cases e; exact h.ne rfl)]; exact h.cell

theorem rst_size (s : List UInt8) (k : Nat) (hs : s.length ≤ 90000) : (((H.rst s k).map ba).getD nobytes).size ≤ 100000 := by
  unfold H.rst
  split
  · show (s.drop k).length ≤ 100000; rw [List.length_drop]; omega
  · show (0 : Nat) ≤ 100000; omega

theorem hbyte (base p r : Nat) (s : List UInt8) (k : Nat) (cs : Array Value) (w : World) (h : Hd base p r s k cs w) (hs : s.length ≤ 90000) :
    Calls Tryz.prog 60 #[.pointer (some ⟨r, 0, none⟩)] w fun e w' => e = .returned (.int .i64 (H.val s k 1)) ∧ Hd base p r s (k + 1) cs w' ∧ Below base w w' := by
  refine (RByte_any base r _ w h.rd (rst_size s k hs)).mono ?_
  rintro e w' ⟨he, hr, hg⟩
  have e1 : takeOf ((H.rst s k).map ba) 1 = _ := H.take_rst s k 1
  rw [e1] at he hr
  have := h.read hg hr
  exact ⟨by rw [he, H.num_rst], this.1, this.2⟩

theorem hshort (base p r : Nat) (s : List UInt8) (k : Nat) (cs : Array Value) (w : World) (h : Hd base p r s k cs w) (hs : s.length ≤ 90000) :
    Calls Tryz.prog 61 #[.pointer (some ⟨r, 0, none⟩)] w fun e w' => e = .returned (.int .i64 (H.val s k 2)) ∧ Hd base p r s (k + 2) cs w' ∧ Below base w w' := by
  refine (RShort_any base r _ w h.rd (rst_size s k hs)).mono ?_
  rintro e w' ⟨he, hr, hg⟩
  have e1 : takeOf ((H.rst s k).map ba) 2 = _ := H.take_rst s k 2
  rw [e1] at he hr
  have := h.read hg hr
  exact ⟨by rw [he, H.num_rst], this.1, this.2⟩

theorem hword (base p r : Nat) (s : List UInt8) (k : Nat) (cs : Array Value) (w : World) (h : Hd base p r s k cs w) (hs : s.length ≤ 90000) :
    Calls Tryz.prog 62 #[.pointer (some ⟨r, 0, none⟩)] w fun e w' => e = .returned (.int .u32 (H.val s k 4)) ∧ Hd base p r s (k + 4) cs w' ∧ Below base w w' := by
  refine (RWord_any base r _ w h.rd (rst_size s k hs)).mono ?_
  rintro e w' ⟨he, hr, hg⟩
  have e1 : takeOf ((H.rst s k).map ba) 4 = _ := H.take_rst s k 4
  rw [e1] at he hr
  have := h.read hg hr
  exact ⟨by rw [he, H.num_rst], this.1, this.2⟩

theorem hok (base p r : Nat) (s : List UInt8) (k : Nat) (cs : Array Value) (w : World) (h : Hd base p r s k cs w) :
    Calls Tryz.prog 63 #[.pointer (some ⟨r, 0, none⟩)] w fun e w' => e = .returned (.bool (decide (k ≤ s.length))) ∧ w = w' := by
  refine (Ok_any base r _ w h.rd).mono ?_
  rintro e w' ⟨he, hw⟩
  refine ⟨?_, hw⟩
  rw [he]
  unfold H.rst
  by_cases h : k ≤ s.length
  · rw [if_pos h, decide_eq_true h]; rfl
  · rw [if_neg h, decide_eq_false h]; rfl
end Go.Proofs.YtncnildpbccpaaaGreatDoor

