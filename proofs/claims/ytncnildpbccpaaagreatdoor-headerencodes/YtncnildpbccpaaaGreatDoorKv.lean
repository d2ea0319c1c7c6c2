/- The document's own word on whether a packet is right; whether one is whole. -/
import Derived.Test.YtncnildpbccpaaaGreatDoorKo
import Derived.Test.YtncnildpbccpaaaGreatDoorKs
set_option maxRecDepth 100000
namespace Go.Proofs.YtncnildpbccpaaaGreatDoor
open Go.RowKit
set_option linter.unusedVariables false

theorem refin_yes (n m : Int) (w : World) (h : 0 ≤ n ∧ n ≤ m) :
    Calls Tryz.prog 22 #[.int .i64 n, .int .i64 m] w fun e w' => e = .returned (.bool true) ∧ w = w' := by
  have q1 : decide (0 ≤ n) = true := decide_eq_true h.1
  have q2 : decide (n ≤ m) = true := decide_eq_true h.2
  go_enter Tryz.func22, Tryz.ntmps22
  go_wp2
  go_ret
  exact ⟨rfl, rfl⟩

theorem refin_no (n m : Int) (w : World) (h : ¬ (0 ≤ n ∧ n ≤ m)) :
    Calls Tryz.prog 22 #[.int .i64 n, .int .i64 m] w fun e w' => e = .returned (.bool false) ∧ w = w' := by
  by_cases h1 : 0 ≤ n
  · have q1 : decide (0 ≤ n) = true := decide_eq_true h1
    have q2 : decide (n ≤ m) = false := decide_eq_false (by omega)
    have h2 : ¬ n ≤ m := by omega
    go_enter Tryz.func22, Tryz.ntmps22
    go_wp2
    go_ret
    exact ⟨rfl, rfl⟩
  · have q1 : decide (0 ≤ n) = false := decide_eq_false h1
    go_enter Tryz.func22, Tryz.ntmps22
    go_wp2
    go_ret
    exact ⟨rfl, rfl⟩

theorem H.right_iff (tos id off ttl proto : Int) (l : List Opt) (n : Nat) (hn : n ≤ 70000) :
    H.right tos id off ttl proto l n = true ↔ ((0 ≤ tos ∧ tos ≤ 255) ∧ (0 ≤ ttl ∧ ttl ≤ 255) ∧ (0 ≤ proto ∧ proto ≤ 255) ∧ (0 ≤ id ∧ id ≤ 65535) ∧ (0 ≤ off ∧ off ≤ 65528) ∧ off % 8 = 0) ∧ l.all O.right = true ∧ O.size l ≤ 40 ∧ 20 + O.size l + n ≤ 65535 ∧ off + (n : Int) ≤ 65535 := by
  unfold H.right
  simp only [Bool.and_eq_true, decide_eq_true_eq]
  constructor
  · rintro ⟨⟨⟨h1, h2⟩, hw⟩, h8⟩
    obtain ⟨a1, a2, a3, a4, a5, a6, a7⟩ := hw
    rw [IntWalk.i64_in _ (by omega)] at a7
    exact ⟨⟨a1, a2, a3, a4, a5, h8⟩, h1, h2, by omega, by omega⟩
  · rintro ⟨⟨a1, a2, a3, a4, a5, h8⟩, h1, h2, h3, h4⟩
    rw [IntWalk.i64_in _ (by omega)]
    refine ⟨⟨⟨h1, h2⟩, ?_⟩, h8⟩
    exact ⟨a1, a2, a3, a4, a5, by omega, by omega⟩
theorem H.right_no (tos id off ttl proto : Int) (l : List Opt) (n : Nat) (hn : n ≤ 70000) (h : ¬ (((0 ≤ tos ∧ tos ≤ 255) ∧ (0 ≤ ttl ∧ ttl ≤ 255) ∧ (0 ≤ proto ∧ proto ≤ 255) ∧ (0 ≤ id ∧ id ≤ 65535) ∧ (0 ≤ off ∧ off ≤ 65528) ∧ off % 8 = 0) ∧ l.all O.right = true ∧ O.size l ≤ 40 ∧ 20 + O.size l + n ≤ 65535 ∧ off + (n : Int) ≤ 65535)) :
    H.right tos id off ttl proto l n = false := by
  cases hh : H.right tos id off ttl proto l n with
  | false => rfl
  | true => exact absurd ((H.right_iff _ _ _ _ _ _ _ hn).1 hh) h

set_option maxHeartbeats 1000000 in
theorem refright_no0 (tos id : Int) (df mf : Bool) (off ttl proto src dst : Int) (a : Option Addr) (cap : Nat) (l : List Opt) (d : ByteArray) (w : World) (h : OptRow w a l) (hl : l.length ≤ 60) (hd : ∀ o ∈ l, o.data.size ≤ 100) (hds : d.size ≤ 70000)  (hno : ¬ (0 ≤ tos ∧ tos ≤ 255)) :
    Calls Tryz.prog 7 #[pk tos id df mf off ttl proto src dst (.slice a l.length cap) d] w fun e w' => e = .returned (.bool false) ∧ Below w.heap.size w w' := by
  have hp0 : PkAt w.heap.size (pkO tos id df mf off ttl proto src dst (.slice a l.length cap) d) a l (w.alloc (pkO tos id df mf off ttl proto src dst (.slice a l.length cap) d)) := ⟨heap_alloc_new w _, h.carry ((Below.refl _ w).alloc (Nat.le_refl _) _)⟩
  have hb0 : Below w.heap.size w (w.alloc (pkO tos id df mf off ttl proto src dst (.slice a l.length cap) d)) := (Below.refl _ w).alloc (Nat.le_refl _) _
  have Hc : Hid (∀ w' : World, PkAt w.heap.size (pkO tos id df mf off ttl proto src dst (.slice a l.length cap) d) a l w' → w'.cell? ⟨w.heap.size, 0, none⟩ = some (.int .i64 tos) ∧ w'.cell? ⟨w.heap.size, 1, none⟩ = some (.int .i64 id) ∧ w'.cell? ⟨w.heap.size, 2, none⟩ = some (.bool df) ∧ w'.cell? ⟨w.heap.size, 3, none⟩ = some (.bool mf) ∧ w'.cell? ⟨w.heap.size, 4, none⟩ = some (.int .i64 off) ∧ w'.cell? ⟨w.heap.size, 5, none⟩ = some (.int .i64 ttl) ∧ w'.cell? ⟨w.heap.size, 6, none⟩ = some (.int .i64 proto) ∧ w'.cell? ⟨w.heap.size, 7, none⟩ = some (.int .u32 src) ∧ w'.cell? ⟨w.heap.size, 8, none⟩ = some (.int .u32 dst) ∧ w'.cell? ⟨w.heap.size, 9, none⟩ = some ((.slice a l.length cap)) ∧ w'.cell? ⟨w.heap.size, 10, none⟩ = some (.string d)) :=
    Lib.hid fun w' hw' => by
      have q1 := hw'.blk
      simp [World.cell?, q1]
  obtain ⟨k0, k1, k2, k3, k4, k5, k6, k7, k8, k9, k10⟩ := Hc.out _ hp0
  clear Hc hp0 h hl hd
  go_enter Tryz.func7, Tryz.ntmps7
  go_wp2_with fail
  refine (refin_no tos 255 _ hno).mono ?_
  rintro e w' ⟨rfl, rfl⟩
  go_wp2
  go_ret
  exact ⟨rfl, hb0⟩

set_option maxHeartbeats 1000000 in
theorem refright_no1 (tos id : Int) (df mf : Bool) (off ttl proto src dst : Int) (a : Option Addr) (cap : Nat) (l : List Opt) (d : ByteArray) (w : World) (h : OptRow w a l) (hl : l.length ≤ 60) (hd : ∀ o ∈ l, o.data.size ≤ 100) (hds : d.size ≤ 70000) (h0 : 0 ≤ tos ∧ tos ≤ 255) (hno : ¬ (0 ≤ ttl ∧ ttl ≤ 255)) :
    Calls Tryz.prog 7 #[pk tos id df mf off ttl proto src dst (.slice a l.length cap) d] w fun e w' => e = .returned (.bool false) ∧ Below w.heap.size w w' := by
  have hp0 : PkAt w.heap.size (pkO tos id df mf off ttl proto src dst (.slice a l.length cap) d) a l (w.alloc (pkO tos id df mf off ttl proto src dst (.slice a l.length cap) d)) := ⟨heap_alloc_new w _, h.carry ((Below.refl _ w).alloc (Nat.le_refl _) _)⟩
  have hb0 : Below w.heap.size w (w.alloc (pkO tos id df mf off ttl proto src dst (.slice a l.length cap) d)) := (Below.refl _ w).alloc (Nat.le_refl _) _
  have Hc : Hid (∀ w' : World, PkAt w.heap.size (pkO tos id df mf off ttl proto src dst (.slice a l.length cap) d) a l w' → w'.cell? ⟨w.heap.size, 0, none⟩ = some (.int .i64 tos) ∧ w'.cell? ⟨w.heap.size, 1, none⟩ = some (.int .i64 id) ∧ w'.cell? ⟨w.heap.size, 2, none⟩ = some (.bool df) ∧ w'.cell? ⟨w.heap.size, 3, none⟩ = some (.bool mf) ∧ w'.cell? ⟨w.heap.size, 4, none⟩ = some (.int .i64 off) ∧ w'.cell? ⟨w.heap.size, 5, none⟩ = some (.int .i64 ttl) ∧ w'.cell? ⟨w.heap.size, 6, none⟩ = some (.int .i64 proto) ∧ w'.cell? ⟨w.heap.size, 7, none⟩ = some (.int .u32 src) ∧ w'.cell? ⟨w.heap.size, 8, none⟩ = some (.int .u32 dst) ∧ w'.cell? ⟨w.heap.size, 9, none⟩ = some ((.slice a l.length cap)) ∧ w'.cell? ⟨w.heap.size, 10, none⟩ = some (.string d)) :=
    Lib.hid fun w' hw' => by
      have q1 := hw'.blk
      simp [World.cell?, q1]
  obtain ⟨k0, k1, k2, k3, k4, k5, k6, k7, k8, k9, k10⟩ := Hc.out _ hp0
  clear Hc hp0 h hl hd
  go_enter Tryz.func7, Tryz.ntmps7
  go_wp2_with fail
  refine (refin_yes tos 255 _ h0).mono ?_
  rintro e w' ⟨rfl, rfl⟩
  go_wp2_with fail
  refine (refin_no ttl 255 _ hno).mono ?_
  rintro e w' ⟨rfl, rfl⟩
  go_wp2
  go_ret
  exact ⟨rfl, hb0⟩

set_option maxHeartbeats 1000000 in
theorem refright_no2 (tos id : Int) (df mf : Bool) (off ttl proto src dst : Int) (a : Option Addr) (cap : Nat) (l : List Opt) (d : ByteArray) (w : World) (h : OptRow w a l) (hl : l.length ≤ 60) (hd : ∀ o ∈ l, o.data.size ≤ 100) (hds : d.size ≤ 70000) (h0 : 0 ≤ tos ∧ tos ≤ 255) (h1 : 0 ≤ ttl ∧ ttl ≤ 255) (hno : ¬ (0 ≤ proto ∧ proto ≤ 255)) :
    Calls Tryz.prog 7 #[pk tos id df mf off ttl proto src dst (.slice a l.length cap) d] w fun e w' => e = .returned (.bool false) ∧ Below w.heap.size w w' := by
  have hp0 : PkAt w.heap.size (pkO tos id df mf off ttl proto src dst (.slice a l.length cap) d) a l (w.alloc (pkO tos id df mf off ttl proto src dst (.slice a l.length cap) d)) := ⟨heap_alloc_new w _, h.carry ((Below.refl _ w).alloc (Nat.le_refl _) _)⟩
  have hb0 : Below w.heap.size w (w.alloc (pkO tos id df mf off ttl proto src dst (.slice a l.length cap) d)) := (Below.refl _ w).alloc (Nat.le_refl _) _
  have Hc : Hid (∀ w' : World, PkAt w.heap.size (pkO tos id df mf off ttl proto src dst (.slice a l.length cap) d) a l w' → w'.cell? ⟨w.heap.size, 0, none⟩ = some (.int .i64 tos) ∧ w'.cell? ⟨w.heap.size, 1, none⟩ = some (.int .i64 id) ∧ w'.cell? ⟨w.heap.size, 2, none⟩ = some (.bool df) ∧ w'.cell? ⟨w.heap.size, 3, none⟩ = some (.bool mf) ∧ w'.cell? ⟨w.heap.size, 4, none⟩ = some (.int .i64 off) ∧ w'.cell? ⟨w.heap.size, 5, none⟩ = some (.int .i64 ttl) ∧ w'.cell? ⟨w.heap.size, 6, none⟩ = some (.int .i64 proto) ∧ w'.cell? ⟨w.heap.size, 7, none⟩ = some (.int .u32 src) ∧ w'.cell? ⟨w.heap.size, 8, none⟩ = some (.int .u32 dst) ∧ w'.cell? ⟨w.heap.size, 9, none⟩ = some ((.slice a l.length cap)) ∧ w'.cell? ⟨w.heap.size, 10, none⟩ = some (.string d)) :=
    Lib.hid fun w' hw' => by
      have q1 := hw'.blk
      simp [World.cell?, q1]
  obtain ⟨k0, k1, k2, k3, k4, k5, k6, k7, k8, k9, k10⟩ := Hc.out _ hp0
  clear Hc hp0 h hl hd
  go_enter Tryz.func7, Tryz.ntmps7
  go_wp2_with fail
  refine (refin_yes tos 255 _ h0).mono ?_
  rintro e w' ⟨rfl, rfl⟩
  go_wp2_with fail
  refine (refin_yes ttl 255 _ h1).mono ?_
  rintro e w' ⟨rfl, rfl⟩
  go_wp2_with fail
  refine (refin_no proto 255 _ hno).mono ?_
  rintro e w' ⟨rfl, rfl⟩
  go_wp2
  go_ret
  exact ⟨rfl, hb0⟩

set_option maxHeartbeats 1000000 in
theorem refright_no3 (tos id : Int) (df mf : Bool) (off ttl proto src dst : Int) (a : Option Addr) (cap : Nat) (l : List Opt) (d : ByteArray) (w : World) (h : OptRow w a l) (hl : l.length ≤ 60) (hd : ∀ o ∈ l, o.data.size ≤ 100) (hds : d.size ≤ 70000) (h0 : 0 ≤ tos ∧ tos ≤ 255) (h1 : 0 ≤ ttl ∧ ttl ≤ 255) (h2 : 0 ≤ proto ∧ proto ≤ 255) (hno : ¬ (0 ≤ id ∧ id ≤ 65535)) :
    Calls Tryz.prog 7 #[pk tos id df mf off ttl proto src dst (.slice a l.length cap) d] w fun e w' => e = .returned (.bool false) ∧ Below w.heap.size w w' := by
  have hp0 : PkAt w.heap.size (pkO tos id df mf off ttl proto src dst (.slice a l.length cap) d) a l (w.alloc (pkO tos id df mf off ttl proto src dst (.slice a l.length cap) d)) := ⟨heap_alloc_new w _, h.carry ((Below.refl _ w).alloc (Nat.le_refl _) _)⟩
  have hb0 : Below w.heap.size w (w.alloc (pkO tos id df mf off ttl proto src dst (.slice a l.length cap) d)) := (Below.refl _ w).alloc (Nat.le_refl _) _
  have Hc : Hid (∀ w' : World, PkAt w.heap.size (pkO tos id df mf off ttl proto src dst (.slice a l.length cap) d) a l w' → w'.cell? ⟨w.heap.size, 0, none⟩ = some (.int .i64 tos) ∧ w'.cell? ⟨w.heap.size, 1, none⟩ = some (.int .i64 id) ∧ w'.cell? ⟨w.heap.size, 2, none⟩ = some (.bool df) ∧ w'.cell? ⟨w.heap.size, 3, none⟩ = some (.bool mf) ∧ w'.cell? ⟨w.heap.size, 4, none⟩ = some (.int .i64 off) ∧ w'.cell? ⟨w.heap.size, 5, none⟩ = some (.int .i64 ttl) ∧ w'.cell? ⟨w.heap.size, 6, none⟩ = some (.int .i64 proto) ∧ w'.cell? ⟨w.heap.size, 7, none⟩ = some (.int .u32 src) ∧ w'.cell? ⟨w.heap.size, 8, none⟩ = some (.int .u32 dst) ∧ w'.cell? ⟨w.heap.size, 9, none⟩ = some ((.slice a l.length cap)) ∧ w'.cell? ⟨w.heap.size, 10, none⟩ = some (.string d)) :=
    Lib.hid fun w' hw' => by
      have q1 := hw'.blk
      simp [World.cell?, q1]
  obtain ⟨k0, k1, k2, k3, k4, k5, k6, k7, k8, k9, k10⟩ := Hc.out _ hp0
  clear Hc hp0 h hl hd
  go_enter Tryz.func7, Tryz.ntmps7
  go_wp2_with fail
  refine (refin_yes tos 255 _ h0).mono ?_
  rintro e w' ⟨rfl, rfl⟩
  go_wp2_with fail
  refine (refin_yes ttl 255 _ h1).mono ?_
  rintro e w' ⟨rfl, rfl⟩
  go_wp2_with fail
  refine (refin_yes proto 255 _ h2).mono ?_
  rintro e w' ⟨rfl, rfl⟩
  go_wp2_with fail
  refine (refin_no id 65535 _ hno).mono ?_
  rintro e w' ⟨rfl, rfl⟩
  go_wp2
  go_ret
  exact ⟨rfl, hb0⟩

set_option maxHeartbeats 1000000 in
theorem refright_no4 (tos id : Int) (df mf : Bool) (off ttl proto src dst : Int) (a : Option Addr) (cap : Nat) (l : List Opt) (d : ByteArray) (w : World) (h : OptRow w a l) (hl : l.length ≤ 60) (hd : ∀ o ∈ l, o.data.size ≤ 100) (hds : d.size ≤ 70000) (h0 : 0 ≤ tos ∧ tos ≤ 255) (h1 : 0 ≤ ttl ∧ ttl ≤ 255) (h2 : 0 ≤ proto ∧ proto ≤ 255) (h3 : 0 ≤ id ∧ id ≤ 65535) (hno : ¬ (0 ≤ off ∧ off ≤ 65528)) :
    Calls Tryz.prog 7 #[pk tos id df mf off ttl proto src dst (.slice a l.length cap) d] w fun e w' => e = .returned (.bool false) ∧ Below w.heap.size w w' := by
  have hp0 : PkAt w.heap.size (pkO tos id df mf off ttl proto src dst (.slice a l.length cap) d) a l (w.alloc (pkO tos id df mf off ttl proto src dst (.slice a l.length cap) d)) := ⟨heap_alloc_new w _, h.carry ((Below.refl _ w).alloc (Nat.le_refl _) _)⟩
  have hb0 : Below w.heap.size w (w.alloc (pkO tos id df mf off ttl proto src dst (.slice a l.length cap) d)) := (Below.refl _ w).alloc (Nat.le_refl _) _
  have Hc : Hid (∀ w' : World, PkAt w.heap.size (pkO tos id df mf off ttl proto src dst (.slice a l.length cap) d) a l w' → w'.cell? ⟨w.heap.size, 0, none⟩ = some (.int .i64 tos) ∧ w'.cell? ⟨w.heap.size, 1, none⟩ = some (.int .i64 id) ∧ w'.cell? ⟨w.heap.size, 2, none⟩ = some (.bool df) ∧ w'.cell? ⟨w.heap.size, 3, none⟩ = some (.bool mf) ∧ w'.cell? ⟨w.heap.size, 4, none⟩ = some (.int .i64 off) ∧ w'.cell? ⟨w.heap.size, 5, none⟩ = some (.int .i64 ttl) ∧ w'.cell? ⟨w.heap.size, 6, none⟩ = some (.int .i64 proto) ∧ w'.cell? ⟨w.heap.size, 7, none⟩ = some (.int .u32 src) ∧ w'.cell? ⟨w.heap.size, 8, none⟩ = some (.int .u32 dst) ∧ w'.cell? ⟨w.heap.size, 9, none⟩ = some ((.slice a l.length cap)) ∧ w'.cell? ⟨w.heap.size, 10, none⟩ = some (.string d)) :=
    Lib.hid fun w' hw' => by
      have q1 := hw'.blk
      simp [World.cell?, q1]
  obtain ⟨k0, k1, k2, k3, k4, k5, k6, k7, k8, k9, k10⟩ := Hc.out _ hp0
  clear Hc hp0 h hl hd
  go_enter Tryz.func7, Tryz.ntmps7
  go_wp2_with fail
  refine (refin_yes tos 255 _ h0).mono ?_
  rintro e w' ⟨rfl, rfl⟩
  go_wp2_with fail
  refine (refin_yes ttl 255 _ h1).mono ?_
  rintro e w' ⟨rfl, rfl⟩
  go_wp2_with fail
  refine (refin_yes proto 255 _ h2).mono ?_
  rintro e w' ⟨rfl, rfl⟩
  go_wp2_with fail
  refine (refin_yes id 65535 _ h3).mono ?_
  rintro e w' ⟨rfl, rfl⟩
  go_wp2_with fail
  refine (refin_no off 65528 _ hno).mono ?_
  rintro e w' ⟨rfl, rfl⟩
  go_wp2
  go_ret
  exact ⟨rfl, hb0⟩

set_option maxHeartbeats 1000000 in
theorem refright_no5 (tos id : Int) (df mf : Bool) (off ttl proto src dst : Int) (a : Option Addr) (cap : Nat) (l : List Opt) (d : ByteArray) (w : World) (h : OptRow w a l) (hl : l.length ≤ 60) (hd : ∀ o ∈ l, o.data.size ≤ 100) (hds : d.size ≤ 70000) (h0 : 0 ≤ tos ∧ tos ≤ 255) (h1 : 0 ≤ ttl ∧ ttl ≤ 255) (h2 : 0 ≤ proto ∧ proto ≤ 255) (h3 : 0 ≤ id ∧ id ≤ 65535) (h4 : 0 ≤ off ∧ off ≤ 65528) (hno : ¬ off % 8 = 0) :
    Calls Tryz.prog 7 #[pk tos id df mf off ttl proto src dst (.slice a l.length cap) d] w fun e w' => e = .returned (.bool false) ∧ Below w.heap.size w w' := by
  have hp0 : PkAt w.heap.size (pkO tos id df mf off ttl proto src dst (.slice a l.length cap) d) a l (w.alloc (pkO tos id df mf off ttl proto src dst (.slice a l.length cap) d)) := ⟨heap_alloc_new w _, h.carry ((Below.refl _ w).alloc (Nat.le_refl _) _)⟩
  have hb0 : Below w.heap.size w (w.alloc (pkO tos id df mf off ttl proto src dst (.slice a l.length cap) d)) := (Below.refl _ w).alloc (Nat.le_refl _) _
  have Hc : Hid (∀ w' : World, PkAt w.heap.size (pkO tos id df mf off ttl proto src dst (.slice a l.length cap) d) a l w' → w'.cell? ⟨w.heap.size, 0, none⟩ = some (.int .i64 tos) ∧ w'.cell? ⟨w.heap.size, 1, none⟩ = some (.int .i64 id) ∧ w'.cell? ⟨w.heap.size, 2, none⟩ = some (.bool df) ∧ w'.cell? ⟨w.heap.size, 3, none⟩ = some (.bool mf) ∧ w'.cell? ⟨w.heap.size, 4, none⟩ = some (.int .i64 off) ∧ w'.cell? ⟨w.heap.size, 5, none⟩ = some (.int .i64 ttl) ∧ w'.cell? ⟨w.heap.size, 6, none⟩ = some (.int .i64 proto) ∧ w'.cell? ⟨w.heap.size, 7, none⟩ = some (.int .u32 src) ∧ w'.cell? ⟨w.heap.size, 8, none⟩ = some (.int .u32 dst) ∧ w'.cell? ⟨w.heap.size, 9, none⟩ = some ((.slice a l.length cap)) ∧ w'.cell? ⟨w.heap.size, 10, none⟩ = some (.string d)) :=
    Lib.hid fun w' hw' => by
      have q1 := hw'.blk
      simp [World.cell?, q1]
  obtain ⟨k0, k1, k2, k3, k4, k5, k6, k7, k8, k9, k10⟩ := Hc.out _ hp0
  have hmod : off.tmod 8 = off % 8 := Int.tmod_eq_emod_of_nonneg h4.1
  have hbn : (off % 8 != 0) = true := by simp [hno]
  have hb8 : (off % 8 == 0) = false := by simp [hno]
  clear Hc hp0 h hl hd
  go_enter Tryz.func7, Tryz.ntmps7
  go_wp2_with fail
  refine (refin_yes tos 255 _ h0).mono ?_
  rintro e w' ⟨rfl, rfl⟩
  go_wp2_with fail
  refine (refin_yes ttl 255 _ h1).mono ?_
  rintro e w' ⟨rfl, rfl⟩
  go_wp2_with fail
  refine (refin_yes proto 255 _ h2).mono ?_
  rintro e w' ⟨rfl, rfl⟩
  go_wp2_with fail
  refine (refin_yes id 65535 _ h3).mono ?_
  rintro e w' ⟨rfl, rfl⟩
  go_wp2_with fail
  refine (refin_yes off 65528 _ h4).mono ?_
  rintro e w' ⟨rfl, rfl⟩
  go_wp2
  go_ret
  exact ⟨rfl, hb0⟩

set_option maxHeartbeats 4000000 in
theorem refright_all (tos id : Int) (df mf : Bool) (off ttl proto src dst : Int) (a : Option Addr) (cap : Nat) (l : List Opt) (d : ByteArray) (w : World) (h : OptRow w a l) (hl : l.length ≤ 60) (hd : ∀ o ∈ l, o.data.size ≤ 100) (hds : d.size ≤ 70000) (h0 : 0 ≤ tos ∧ tos ≤ 255) (h1 : 0 ≤ ttl ∧ ttl ≤ 255) (h2 : 0 ≤ proto ∧ proto ≤ 255) (h3 : 0 ≤ id ∧ id ≤ 65535) (h4 : 0 ≤ off ∧ off ≤ 65528) (h5 : off % 8 = 0) (hA : l.all O.right = false) :
    Calls Tryz.prog 7 #[pk tos id df mf off ttl proto src dst (.slice a l.length cap) d] w fun e w' => e = .returned (.bool (false)) ∧ Below w.heap.size w w' := by
  have HA := Lib.hid (fun w' (h' : OptRow w' a l) => refAll_any a cap l w' h' (by unfold maxLen; omega) (fun o ho => by have := hd o ho; unfold maxLen; omega))
  rw [hA] at HA
  have HZ : Hid (∀ w', OptRow w' a l → Calls Tryz.prog 24 #[.slice a l.length cap] w' fun e w'' => e = .returned (.int .i64 (O.size l : Nat)) ∧ Below w'.heap.size w' w'') := Lib.hid (fun w' h' => (refSize_any a cap l w' h' hl hd).mono fun e w'' ⟨he, hw⟩ => ⟨he, by subst hw; exact Below.refl _ _⟩)
  have hzl : O.size l ≤ 6200 := by
    have := raw_le l hd
    have := O.pad_le (O.raw l)
    show O.raw l + O.pad (O.raw l) ≤ 6200
    omega
  have hp0 : PkAt w.heap.size (pkO tos id df mf off ttl proto src dst (.slice a l.length cap) d) a l (w.alloc (pkO tos id df mf off ttl proto src dst (.slice a l.length cap) d)) := ⟨heap_alloc_new w _, h.carry ((Below.refl _ w).alloc (Nat.le_refl _) _)⟩
  have hb0 : Below w.heap.size w (w.alloc (pkO tos id df mf off ttl proto src dst (.slice a l.length cap) d)) := (Below.refl _ w).alloc (Nat.le_refl _) _
  have Hc : Hid (∀ w' : World, PkAt w.heap.size (pkO tos id df mf off ttl proto src dst (.slice a l.length cap) d) a l w' → w'.cell? ⟨w.heap.size, 0, none⟩ = some (.int .i64 tos) ∧ w'.cell? ⟨w.heap.size, 1, none⟩ = some (.int .i64 id) ∧ w'.cell? ⟨w.heap.size, 2, none⟩ = some (.bool df) ∧ w'.cell? ⟨w.heap.size, 3, none⟩ = some (.bool mf) ∧ w'.cell? ⟨w.heap.size, 4, none⟩ = some (.int .i64 off) ∧ w'.cell? ⟨w.heap.size, 5, none⟩ = some (.int .i64 ttl) ∧ w'.cell? ⟨w.heap.size, 6, none⟩ = some (.int .i64 proto) ∧ w'.cell? ⟨w.heap.size, 7, none⟩ = some (.int .u32 src) ∧ w'.cell? ⟨w.heap.size, 8, none⟩ = some (.int .u32 dst) ∧ w'.cell? ⟨w.heap.size, 9, none⟩ = some ((.slice a l.length cap)) ∧ w'.cell? ⟨w.heap.size, 10, none⟩ = some (.string d)) :=
    Lib.hid fun w' hw' => by
      have q1 := hw'.blk
      simp [World.cell?, q1]
  obtain ⟨k0, k1, k2, k3, k4, k5, k6, k7, k8, k9, k10⟩ := Hc.out _ hp0
  have hmod : off.tmod 8 = off % 8 := Int.tmod_eq_emod_of_nonneg h4.1
  have hbn : (off % 8 != 0) = false := by simp [h5]
  have hb8 : (off % 8 == 0) = true := by simp [h5]
  clear h hl hd hA
  generalize O.size l = z at *
  generalize hn : d.size = n at *

  have hz0 : IntKind.i64.wrap (20 + (z : Int)) = ((20 + z : Nat) : Int) := by rw [IntWalk.i64_in _ (by omega)]; omega
  have hz1 : IntKind.i64.wrap (((20 + z : Nat) : Int) + (n : Int)) = ((20 + z + n : Nat) : Int) := by rw [IntWalk.i64_in _ (by omega)]; omega
  have hz2 : IntKind.i64.wrap (off + (n : Int)) = off + (n : Int) := IntWalk.i64_in _ (by omega)

  generalize 20 + z + n = Z at *
  generalize 20 + z = Z0 at *
  go_enter Tryz.func7, Tryz.ntmps7
  go_wp2_with fail
  refine (refin_yes tos 255 _ h0).mono ?_
  rintro e w' ⟨rfl, rfl⟩
  go_wp2_with fail
  refine (refin_yes ttl 255 _ h1).mono ?_
  rintro e w' ⟨rfl, rfl⟩
  go_wp2_with fail
  refine (refin_yes proto 255 _ h2).mono ?_
  rintro e w' ⟨rfl, rfl⟩
  go_wp2_with fail
  refine (refin_yes id 65535 _ h3).mono ?_
  rintro e w' ⟨rfl, rfl⟩
  go_wp2_with fail
  refine (refin_yes off 65528 _ h4).mono ?_
  rintro e w' ⟨rfl, rfl⟩
  go_upto_region 3 with fail
  clear k0 k1 k2 k3 k4 k5 k6 k7 k8 k9 k10
  generalize hN : w.heap.size = N at *
  refine region_walk (PkAt N (pkO tos id df mf off ttl proto src dst (.slice a l.length cap) d) a l) (fun x y => Below x.heap.size x y) (by kernel_rfl) (by kernel_rfl) (by kernel_rfl) (fun x => Below.refl _ x) bel_trans (fun x y hx hr => hx.carry hr) (hp0.carry ((Below.refl _ _).drew)) ?_
  apply Exists.intro
  refine ⟨?_, ?_⟩
  · refine ⟨.pointer (some ⟨N, 9, none⟩), .inl ⟨by rfl, fun w' hw' => ?_⟩, ?_⟩
    · obtain ⟨k0, k1, k2, k3, k4, k5, k6, k7, k8, k9, k10⟩ := Hc.out w' hw'
      go_simp
    simp only [Act.put, List.setIfInBounds_toArray, List.set_cons_zero, List.set_cons_succ]
    refine ⟨.slice a l.length cap, .inl ⟨by rfl, fun w' hw' => ?_⟩, ?_⟩
    · obtain ⟨k0, k1, k2, k3, k4, k5, k6, k7, k8, k9, k10⟩ := Hc.out w' hw'
      go_simp
    simp only [Act.put, List.setIfInBounds_toArray, List.set_cons_zero, List.set_cons_succ]
    refine ⟨.bool false, .inl ⟨by rfl, fun w' hw' => ?_⟩, ?_⟩
    · go_simp
      exact HA.out w' hw'.row
    simp only [Act.put, List.setIfInBounds_toArray, List.set_cons_zero, List.set_cons_succ]
    refine ⟨.bool false, .inl ⟨by rfl, fun w' hw' => ?_⟩, ?_⟩
    · go_simp
    simp only [Act.put, List.setIfInBounds_toArray, List.set_cons_zero, List.set_cons_succ]
    refine ⟨undef, .inr ⟨by rfl, rfl⟩, ?_⟩
    simp only [Act.put, List.setIfInBounds_toArray, List.set_cons_zero, List.set_cons_succ]
    refine ⟨undef, .inr ⟨by rfl, rfl⟩, ?_⟩
    simp only [Act.put, List.setIfInBounds_toArray, List.set_cons_zero, List.set_cons_succ]
    refine ⟨undef, .inr ⟨by rfl, rfl⟩, ?_⟩
    simp only [Act.put, List.setIfInBounds_toArray, List.set_cons_zero, List.set_cons_succ]
    refine ⟨undef, .inr ⟨by rfl, rfl⟩, ?_⟩
    simp only [Act.put, List.setIfInBounds_toArray, List.set_cons_zero, List.set_cons_succ]
    refine ⟨.bool false, .inl ⟨by rfl, fun w' hw' => ?_⟩, ?_⟩
    · go_simp
    simp only [Act.put, List.setIfInBounds_toArray, List.set_cons_zero, List.set_cons_succ]
    refine ⟨.bool false, .inl ⟨by rfl, fun w' hw' => ?_⟩, ?_⟩
    · go_simp
    simp only [Act.put, List.setIfInBounds_toArray, List.set_cons_zero, List.set_cons_succ]
    refine ⟨undef, .inr ⟨by rfl, rfl⟩, ?_⟩
    simp only [Act.put, List.setIfInBounds_toArray, List.set_cons_zero, List.set_cons_succ]
    refine ⟨undef, .inr ⟨by rfl, rfl⟩, ?_⟩
    simp only [Act.put, List.setIfInBounds_toArray, List.set_cons_zero, List.set_cons_succ]
    refine ⟨undef, .inr ⟨by rfl, rfl⟩, ?_⟩
    simp only [Act.put, List.setIfInBounds_toArray, List.set_cons_zero, List.set_cons_succ]
    refine ⟨undef, .inr ⟨by rfl, rfl⟩, ?_⟩
    simp only [Act.put, List.setIfInBounds_toArray, List.set_cons_zero, List.set_cons_succ]
    refine ⟨undef, .inr ⟨by rfl, rfl⟩, ?_⟩
    simp only [Act.put, List.setIfInBounds_toArray, List.set_cons_zero, List.set_cons_succ]
    refine ⟨undef, .inr ⟨by rfl, rfl⟩, ?_⟩
    simp only [Act.put, List.setIfInBounds_toArray, List.set_cons_zero, List.set_cons_succ]
    refine ⟨undef, .inr ⟨by rfl, rfl⟩, ?_⟩
    simp only [Act.put, List.setIfInBounds_toArray, List.set_cons_zero, List.set_cons_succ]
    refine ⟨undef, .inr ⟨by rfl, rfl⟩, ?_⟩
    simp only [Act.put, List.setIfInBounds_toArray, List.set_cons_zero, List.set_cons_succ]
    refine ⟨undef, .inr ⟨by rfl, rfl⟩, ?_⟩
    simp only [Act.put, List.setIfInBounds_toArray, List.set_cons_zero, List.set_cons_succ]
    refine ⟨.bool false, .inl ⟨by rfl, fun w' hw' => ?_⟩, ?_⟩
    · go_simp
    simp only [Act.put, List.setIfInBounds_toArray, List.set_cons_zero, List.set_cons_succ]
    refine ⟨.bool false, .inl ⟨by rfl, fun w' hw' => ?_⟩, ?_⟩
    · go_simp
    simp only [Act.put, List.setIfInBounds_toArray, List.set_cons_zero, List.set_cons_succ]
    refine ⟨undef, .inr ⟨by rfl, rfl⟩, ?_⟩
    simp only [Act.put, List.setIfInBounds_toArray, List.set_cons_zero, List.set_cons_succ]
    refine ⟨undef, .inr ⟨by rfl, rfl⟩, ?_⟩
    simp only [Act.put, List.setIfInBounds_toArray, List.set_cons_zero, List.set_cons_succ]
    refine ⟨undef, .inr ⟨by rfl, rfl⟩, ?_⟩
    simp only [Act.put, List.setIfInBounds_toArray, List.set_cons_zero, List.set_cons_succ]
    refine ⟨undef, .inr ⟨by rfl, rfl⟩, ?_⟩
    simp only [Act.put, List.setIfInBounds_toArray, List.set_cons_zero, List.set_cons_succ]
    refine ⟨undef, .inr ⟨by rfl, rfl⟩, ?_⟩
    simp only [Act.put, List.setIfInBounds_toArray, List.set_cons_zero, List.set_cons_succ]
    refine ⟨undef, .inr ⟨by rfl, rfl⟩, ?_⟩
    simp only [Act.put, List.setIfInBounds_toArray, List.set_cons_zero, List.set_cons_succ]
    refine ⟨undef, .inr ⟨by rfl, rfl⟩, ?_⟩
    simp only [Act.put, List.setIfInBounds_toArray, List.set_cons_zero, List.set_cons_succ]
    refine ⟨.bool false, .inl ⟨by rfl, fun w' hw' => ?_⟩, ?_⟩
    · go_simp
    simp only [Act.put, List.setIfInBounds_toArray, List.set_cons_zero, List.set_cons_succ]
    refine ⟨.bool false, .inl ⟨by rfl, fun w' hw' => ?_⟩, ?_⟩
    · go_simp
    simp only [Act.put, List.setIfInBounds_toArray, List.set_cons_zero, List.set_cons_succ]
    rfl
  intro w3 hp3 hr
  have hb3w : Below N w w3 := hb0.trans (((Below.refl _ _).drew.trans hr).mono (by have := hb0.size; rw [hN] at this; simpa using this))
  clear hr hp0 hb0 HA HZ Hc
  go_wp2
  go_ret
  exact ⟨rfl, by rw [hN]; exact hb3w⟩

set_option maxHeartbeats 4000000 in
theorem refright_size (tos id : Int) (df mf : Bool) (off ttl proto src dst : Int) (a : Option Addr) (cap : Nat) (l : List Opt) (d : ByteArray) (w : World) (h : OptRow w a l) (hl : l.length ≤ 60) (hd : ∀ o ∈ l, o.data.size ≤ 100) (hds : d.size ≤ 70000) (h0 : 0 ≤ tos ∧ tos ≤ 255) (h1 : 0 ≤ ttl ∧ ttl ≤ 255) (h2 : 0 ≤ proto ∧ proto ≤ 255) (h3 : 0 ≤ id ∧ id ≤ 65535) (h4 : 0 ≤ off ∧ off ≤ 65528) (h5 : off % 8 = 0) (hA : l.all O.right = true) (hB : ¬ O.size l ≤ 40) :
    Calls Tryz.prog 7 #[pk tos id df mf off ttl proto src dst (.slice a l.length cap) d] w fun e w' => e = .returned (.bool (false)) ∧ Below w.heap.size w w' := by
  have HA := Lib.hid (fun w' (h' : OptRow w' a l) => refAll_any a cap l w' h' (by unfold maxLen; omega) (fun o ho => by have := hd o ho; unfold maxLen; omega))
  rw [hA] at HA
  have HZ : Hid (∀ w', OptRow w' a l → Calls Tryz.prog 24 #[.slice a l.length cap] w' fun e w'' => e = .returned (.int .i64 (O.size l : Nat)) ∧ Below w'.heap.size w' w'') := Lib.hid (fun w' h' => (refSize_any a cap l w' h' hl hd).mono fun e w'' ⟨he, hw⟩ => ⟨he, by subst hw; exact Below.refl _ _⟩)
  have hzl : O.size l ≤ 6200 := by
    have := raw_le l hd
    have := O.pad_le (O.raw l)
    show O.raw l + O.pad (O.raw l) ≤ 6200
    omega
  have hp0 : PkAt w.heap.size (pkO tos id df mf off ttl proto src dst (.slice a l.length cap) d) a l (w.alloc (pkO tos id df mf off ttl proto src dst (.slice a l.length cap) d)) := ⟨heap_alloc_new w _, h.carry ((Below.refl _ w).alloc (Nat.le_refl _) _)⟩
  have hb0 : Below w.heap.size w (w.alloc (pkO tos id df mf off ttl proto src dst (.slice a l.length cap) d)) := (Below.refl _ w).alloc (Nat.le_refl _) _
  have Hc : Hid (∀ w' : World, PkAt w.heap.size (pkO tos id df mf off ttl proto src dst (.slice a l.length cap) d) a l w' → w'.cell? ⟨w.heap.size, 0, none⟩ = some (.int .i64 tos) ∧ w'.cell? ⟨w.heap.size, 1, none⟩ = some (.int .i64 id) ∧ w'.cell? ⟨w.heap.size, 2, none⟩ = some (.bool df) ∧ w'.cell? ⟨w.heap.size, 3, none⟩ = some (.bool mf) ∧ w'.cell? ⟨w.heap.size, 4, none⟩ = some (.int .i64 off) ∧ w'.cell? ⟨w.heap.size, 5, none⟩ = some (.int .i64 ttl) ∧ w'.cell? ⟨w.heap.size, 6, none⟩ = some (.int .i64 proto) ∧ w'.cell? ⟨w.heap.size, 7, none⟩ = some (.int .u32 src) ∧ w'.cell? ⟨w.heap.size, 8, none⟩ = some (.int .u32 dst) ∧ w'.cell? ⟨w.heap.size, 9, none⟩ = some ((.slice a l.length cap)) ∧ w'.cell? ⟨w.heap.size, 10, none⟩ = some (.string d)) :=
    Lib.hid fun w' hw' => by
      have q1 := hw'.blk
      simp [World.cell?, q1]
  obtain ⟨k0, k1, k2, k3, k4, k5, k6, k7, k8, k9, k10⟩ := Hc.out _ hp0
  have hmod : off.tmod 8 = off % 8 := Int.tmod_eq_emod_of_nonneg h4.1
  have hbn : (off % 8 != 0) = false := by simp [h5]
  have hb8 : (off % 8 == 0) = true := by simp [h5]
  clear h hl hd hA
  generalize O.size l = z at *
  generalize hn : d.size = n at *
  have q40 : decide ((z : Int) ≤ 40) = false := decide_eq_false (by omega)
  have hz0 : IntKind.i64.wrap (20 + (z : Int)) = ((20 + z : Nat) : Int) := by rw [IntWalk.i64_in _ (by omega)]; omega
  have hz1 : IntKind.i64.wrap (((20 + z : Nat) : Int) + (n : Int)) = ((20 + z + n : Nat) : Int) := by rw [IntWalk.i64_in _ (by omega)]; omega
  have hz2 : IntKind.i64.wrap (off + (n : Int)) = off + (n : Int) := IntWalk.i64_in _ (by omega)

  generalize 20 + z + n = Z at *
  generalize 20 + z = Z0 at *
  go_enter Tryz.func7, Tryz.ntmps7
  go_wp2_with fail
  refine (refin_yes tos 255 _ h0).mono ?_
  rintro e w' ⟨rfl, rfl⟩
  go_wp2_with fail
  refine (refin_yes ttl 255 _ h1).mono ?_
  rintro e w' ⟨rfl, rfl⟩
  go_wp2_with fail
  refine (refin_yes proto 255 _ h2).mono ?_
  rintro e w' ⟨rfl, rfl⟩
  go_wp2_with fail
  refine (refin_yes id 65535 _ h3).mono ?_
  rintro e w' ⟨rfl, rfl⟩
  go_wp2_with fail
  refine (refin_yes off 65528 _ h4).mono ?_
  rintro e w' ⟨rfl, rfl⟩
  go_upto_region 3 with fail
  clear k0 k1 k2 k3 k4 k5 k6 k7 k8 k9 k10
  generalize hN : w.heap.size = N at *
  refine region_walk (PkAt N (pkO tos id df mf off ttl proto src dst (.slice a l.length cap) d) a l) (fun x y => Below x.heap.size x y) (by kernel_rfl) (by kernel_rfl) (by kernel_rfl) (fun x => Below.refl _ x) bel_trans (fun x y hx hr => hx.carry hr) (hp0.carry ((Below.refl _ _).drew)) ?_
  apply Exists.intro
  refine ⟨?_, ?_⟩
  · refine ⟨.pointer (some ⟨N, 9, none⟩), .inl ⟨by rfl, fun w' hw' => ?_⟩, ?_⟩
    · obtain ⟨k0, k1, k2, k3, k4, k5, k6, k7, k8, k9, k10⟩ := Hc.out w' hw'
      go_simp
    simp only [Act.put, List.setIfInBounds_toArray, List.set_cons_zero, List.set_cons_succ]
    refine ⟨.slice a l.length cap, .inl ⟨by rfl, fun w' hw' => ?_⟩, ?_⟩
    · obtain ⟨k0, k1, k2, k3, k4, k5, k6, k7, k8, k9, k10⟩ := Hc.out w' hw'
      go_simp
    simp only [Act.put, List.setIfInBounds_toArray, List.set_cons_zero, List.set_cons_succ]
    refine ⟨.bool true, .inl ⟨by rfl, fun w' hw' => ?_⟩, ?_⟩
    · go_simp
      exact HA.out w' hw'.row
    simp only [Act.put, List.setIfInBounds_toArray, List.set_cons_zero, List.set_cons_succ]
    refine ⟨.bool true, .inl ⟨by rfl, fun w' hw' => ?_⟩, ?_⟩
    · go_simp
    simp only [Act.put, List.setIfInBounds_toArray, List.set_cons_zero, List.set_cons_succ]
    refine ⟨.pointer (some ⟨N, 9, none⟩), .inl ⟨by rfl, fun w' hw' => ?_⟩, ?_⟩
    · obtain ⟨k0, k1, k2, k3, k4, k5, k6, k7, k8, k9, k10⟩ := Hc.out w' hw'
      go_simp
    simp only [Act.put, List.setIfInBounds_toArray, List.set_cons_zero, List.set_cons_succ]
    refine ⟨.slice a l.length cap, .inl ⟨by rfl, fun w' hw' => ?_⟩, ?_⟩
    · obtain ⟨k0, k1, k2, k3, k4, k5, k6, k7, k8, k9, k10⟩ := Hc.out w' hw'
      go_simp
    simp only [Act.put, List.setIfInBounds_toArray, List.set_cons_zero, List.set_cons_succ]
    refine ⟨.int .i64 (z : Nat), .inl ⟨by rfl, fun w' hw' => ?_⟩, ?_⟩
    · go_simp
      exact HZ.out w' hw'.row
    simp only [Act.put, List.setIfInBounds_toArray, List.set_cons_zero, List.set_cons_succ]
    refine ⟨.bool false, .inl ⟨by rfl, fun w' hw' => ?_⟩, ?_⟩
    · go_simp
    simp only [Act.put, List.setIfInBounds_toArray, List.set_cons_zero, List.set_cons_succ]
    refine ⟨.bool false, .inl ⟨by rfl, fun w' hw' => ?_⟩, ?_⟩
    · go_simp
    simp only [Act.put, List.setIfInBounds_toArray, List.set_cons_zero, List.set_cons_succ]
    refine ⟨.bool false, .inl ⟨by rfl, fun w' hw' => ?_⟩, ?_⟩
    · go_simp
    simp only [Act.put, List.setIfInBounds_toArray, List.set_cons_zero, List.set_cons_succ]
    refine ⟨undef, .inr ⟨by rfl, rfl⟩, ?_⟩
    simp only [Act.put, List.setIfInBounds_toArray, List.set_cons_zero, List.set_cons_succ]
    refine ⟨undef, .inr ⟨by rfl, rfl⟩, ?_⟩
    simp only [Act.put, List.setIfInBounds_toArray, List.set_cons_zero, List.set_cons_succ]
    refine ⟨undef, .inr ⟨by rfl, rfl⟩, ?_⟩
    simp only [Act.put, List.setIfInBounds_toArray, List.set_cons_zero, List.set_cons_succ]
    refine ⟨undef, .inr ⟨by rfl, rfl⟩, ?_⟩
    simp only [Act.put, List.setIfInBounds_toArray, List.set_cons_zero, List.set_cons_succ]
    refine ⟨undef, .inr ⟨by rfl, rfl⟩, ?_⟩
    simp only [Act.put, List.setIfInBounds_toArray, List.set_cons_zero, List.set_cons_succ]
    refine ⟨undef, .inr ⟨by rfl, rfl⟩, ?_⟩
    simp only [Act.put, List.setIfInBounds_toArray, List.set_cons_zero, List.set_cons_succ]
    refine ⟨undef, .inr ⟨by rfl, rfl⟩, ?_⟩
    simp only [Act.put, List.setIfInBounds_toArray, List.set_cons_zero, List.set_cons_succ]
    refine ⟨undef, .inr ⟨by rfl, rfl⟩, ?_⟩
    simp only [Act.put, List.setIfInBounds_toArray, List.set_cons_zero, List.set_cons_succ]
    refine ⟨undef, .inr ⟨by rfl, rfl⟩, ?_⟩
    simp only [Act.put, List.setIfInBounds_toArray, List.set_cons_zero, List.set_cons_succ]
    refine ⟨.bool false, .inl ⟨by rfl, fun w' hw' => ?_⟩, ?_⟩
    · go_simp
    simp only [Act.put, List.setIfInBounds_toArray, List.set_cons_zero, List.set_cons_succ]
    refine ⟨.bool false, .inl ⟨by rfl, fun w' hw' => ?_⟩, ?_⟩
    · go_simp
    simp only [Act.put, List.setIfInBounds_toArray, List.set_cons_zero, List.set_cons_succ]
    refine ⟨undef, .inr ⟨by rfl, rfl⟩, ?_⟩
    simp only [Act.put, List.setIfInBounds_toArray, List.set_cons_zero, List.set_cons_succ]
    refine ⟨undef, .inr ⟨by rfl, rfl⟩, ?_⟩
    simp only [Act.put, List.setIfInBounds_toArray, List.set_cons_zero, List.set_cons_succ]
    refine ⟨undef, .inr ⟨by rfl, rfl⟩, ?_⟩
    simp only [Act.put, List.setIfInBounds_toArray, List.set_cons_zero, List.set_cons_succ]
    refine ⟨undef, .inr ⟨by rfl, rfl⟩, ?_⟩
    simp only [Act.put, List.setIfInBounds_toArray, List.set_cons_zero, List.set_cons_succ]
    refine ⟨undef, .inr ⟨by rfl, rfl⟩, ?_⟩
    simp only [Act.put, List.setIfInBounds_toArray, List.set_cons_zero, List.set_cons_succ]
    refine ⟨undef, .inr ⟨by rfl, rfl⟩, ?_⟩
    simp only [Act.put, List.setIfInBounds_toArray, List.set_cons_zero, List.set_cons_succ]
    refine ⟨undef, .inr ⟨by rfl, rfl⟩, ?_⟩
    simp only [Act.put, List.setIfInBounds_toArray, List.set_cons_zero, List.set_cons_succ]
    refine ⟨.bool false, .inl ⟨by rfl, fun w' hw' => ?_⟩, ?_⟩
    · go_simp
    simp only [Act.put, List.setIfInBounds_toArray, List.set_cons_zero, List.set_cons_succ]
    refine ⟨.bool false, .inl ⟨by rfl, fun w' hw' => ?_⟩, ?_⟩
    · go_simp
    simp only [Act.put, List.setIfInBounds_toArray, List.set_cons_zero, List.set_cons_succ]
    rfl
  intro w3 hp3 hr
  have hb3w : Below N w w3 := hb0.trans (((Below.refl _ _).drew.trans hr).mono (by have := hb0.size; rw [hN] at this; simpa using this))
  clear hr hp0 hb0 HA HZ Hc
  go_wp2
  go_ret
  exact ⟨rfl, by rw [hN]; exact hb3w⟩

set_option maxHeartbeats 4000000 in
theorem refright_whole (tos id : Int) (df mf : Bool) (off ttl proto src dst : Int) (a : Option Addr) (cap : Nat) (l : List Opt) (d : ByteArray) (w : World) (h : OptRow w a l) (hl : l.length ≤ 60) (hd : ∀ o ∈ l, o.data.size ≤ 100) (hds : d.size ≤ 70000) (h0 : 0 ≤ tos ∧ tos ≤ 255) (h1 : 0 ≤ ttl ∧ ttl ≤ 255) (h2 : 0 ≤ proto ∧ proto ≤ 255) (h3 : 0 ≤ id ∧ id ≤ 65535) (h4 : 0 ≤ off ∧ off ≤ 65528) (h5 : off % 8 = 0) (hA : l.all O.right = true) (hB : O.size l ≤ 40) (hC : ¬ 20 + O.size l + d.size ≤ 65535) :
    Calls Tryz.prog 7 #[pk tos id df mf off ttl proto src dst (.slice a l.length cap) d] w fun e w' => e = .returned (.bool (false)) ∧ Below w.heap.size w w' := by
  have HA := Lib.hid (fun w' (h' : OptRow w' a l) => refAll_any a cap l w' h' (by unfold maxLen; omega) (fun o ho => by have := hd o ho; unfold maxLen; omega))
  rw [hA] at HA
  have HZ : Hid (∀ w', OptRow w' a l → Calls Tryz.prog 24 #[.slice a l.length cap] w' fun e w'' => e = .returned (.int .i64 (O.size l : Nat)) ∧ Below w'.heap.size w' w'') := Lib.hid (fun w' h' => (refSize_any a cap l w' h' hl hd).mono fun e w'' ⟨he, hw⟩ => ⟨he, by subst hw; exact Below.refl _ _⟩)
  have hzl : O.size l ≤ 6200 := by
    have := raw_le l hd
    have := O.pad_le (O.raw l)
    show O.raw l + O.pad (O.raw l) ≤ 6200
    omega
  have hp0 : PkAt w.heap.size (pkO tos id df mf off ttl proto src dst (.slice a l.length cap) d) a l (w.alloc (pkO tos id df mf off ttl proto src dst (.slice a l.length cap) d)) := ⟨heap_alloc_new w _, h.carry ((Below.refl _ w).alloc (Nat.le_refl _) _)⟩
  have hb0 : Below w.heap.size w (w.alloc (pkO tos id df mf off ttl proto src dst (.slice a l.length cap) d)) := (Below.refl _ w).alloc (Nat.le_refl _) _
  have Hc : Hid (∀ w' : World, PkAt w.heap.size (pkO tos id df mf off ttl proto src dst (.slice a l.length cap) d) a l w' → w'.cell? ⟨w.heap.size, 0, none⟩ = some (.int .i64 tos) ∧ w'.cell? ⟨w.heap.size, 1, none⟩ = some (.int .i64 id) ∧ w'.cell? ⟨w.heap.size, 2, none⟩ = some (.bool df) ∧ w'.cell? ⟨w.heap.size, 3, none⟩ = some (.bool mf) ∧ w'.cell? ⟨w.heap.size, 4, none⟩ = some (.int .i64 off) ∧ w'.cell? ⟨w.heap.size, 5, none⟩ = some (.int .i64 ttl) ∧ w'.cell? ⟨w.heap.size, 6, none⟩ = some (.int .i64 proto) ∧ w'.cell? ⟨w.heap.size, 7, none⟩ = some (.int .u32 src) ∧ w'.cell? ⟨w.heap.size, 8, none⟩ = some (.int .u32 dst) ∧ w'.cell? ⟨w.heap.size, 9, none⟩ = some ((.slice a l.length cap)) ∧ w'.cell? ⟨w.heap.size, 10, none⟩ = some (.string d)) :=
    Lib.hid fun w' hw' => by
      have q1 := hw'.blk
      simp [World.cell?, q1]
  obtain ⟨k0, k1, k2, k3, k4, k5, k6, k7, k8, k9, k10⟩ := Hc.out _ hp0
  have hmod : off.tmod 8 = off % 8 := Int.tmod_eq_emod_of_nonneg h4.1
  have hbn : (off % 8 != 0) = false := by simp [h5]
  have hb8 : (off % 8 == 0) = true := by simp [h5]
  clear h hl hd hA
  generalize O.size l = z at *
  generalize hn : d.size = n at *
  have q40 : decide ((z : Int) ≤ 40) = true := decide_eq_true (by omega)
  have hz0 : IntKind.i64.wrap (20 + (z : Int)) = ((20 + z : Nat) : Int) := by rw [IntWalk.i64_in _ (by omega)]; omega
  have hz1 : IntKind.i64.wrap (((20 + z : Nat) : Int) + (n : Int)) = ((20 + z + n : Nat) : Int) := by rw [IntWalk.i64_in _ (by omega)]; omega
  have hz2 : IntKind.i64.wrap (off + (n : Int)) = off + (n : Int) := IntWalk.i64_in _ (by omega)
  have q65 : decide (((20 + z + n : Nat) : Int) ≤ 65535) = false := decide_eq_false (by omega)
  generalize 20 + z + n = Z at *
  generalize 20 + z = Z0 at *
  go_enter Tryz.func7, Tryz.ntmps7
  go_wp2_with fail
  refine (refin_yes tos 255 _ h0).mono ?_
  rintro e w' ⟨rfl, rfl⟩
  go_wp2_with fail
  refine (refin_yes ttl 255 _ h1).mono ?_
  rintro e w' ⟨rfl, rfl⟩
  go_wp2_with fail
  refine (refin_yes proto 255 _ h2).mono ?_
  rintro e w' ⟨rfl, rfl⟩
  go_wp2_with fail
  refine (refin_yes id 65535 _ h3).mono ?_
  rintro e w' ⟨rfl, rfl⟩
  go_wp2_with fail
  refine (refin_yes off 65528 _ h4).mono ?_
  rintro e w' ⟨rfl, rfl⟩
  go_upto_region 3 with fail
  clear k0 k1 k2 k3 k4 k5 k6 k7 k8 k9 k10
  generalize hN : w.heap.size = N at *
  refine region_walk (PkAt N (pkO tos id df mf off ttl proto src dst (.slice a l.length cap) d) a l) (fun x y => Below x.heap.size x y) (by kernel_rfl) (by kernel_rfl) (by kernel_rfl) (fun x => Below.refl _ x) bel_trans (fun x y hx hr => hx.carry hr) (hp0.carry ((Below.refl _ _).drew)) ?_
  apply Exists.intro
  refine ⟨?_, ?_⟩
  · refine ⟨.pointer (some ⟨N, 9, none⟩), .inl ⟨by rfl, fun w' hw' => ?_⟩, ?_⟩
    · obtain ⟨k0, k1, k2, k3, k4, k5, k6, k7, k8, k9, k10⟩ := Hc.out w' hw'
      go_simp
    simp only [Act.put, List.setIfInBounds_toArray, List.set_cons_zero, List.set_cons_succ]
    refine ⟨.slice a l.length cap, .inl ⟨by rfl, fun w' hw' => ?_⟩, ?_⟩
    · obtain ⟨k0, k1, k2, k3, k4, k5, k6, k7, k8, k9, k10⟩ := Hc.out w' hw'
      go_simp
    simp only [Act.put, List.setIfInBounds_toArray, List.set_cons_zero, List.set_cons_succ]
    refine ⟨.bool true, .inl ⟨by rfl, fun w' hw' => ?_⟩, ?_⟩
    · go_simp
      exact HA.out w' hw'.row
    simp only [Act.put, List.setIfInBounds_toArray, List.set_cons_zero, List.set_cons_succ]
    refine ⟨.bool true, .inl ⟨by rfl, fun w' hw' => ?_⟩, ?_⟩
    · go_simp
    simp only [Act.put, List.setIfInBounds_toArray, List.set_cons_zero, List.set_cons_succ]
    refine ⟨.pointer (some ⟨N, 9, none⟩), .inl ⟨by rfl, fun w' hw' => ?_⟩, ?_⟩
    · obtain ⟨k0, k1, k2, k3, k4, k5, k6, k7, k8, k9, k10⟩ := Hc.out w' hw'
      go_simp
    simp only [Act.put, List.setIfInBounds_toArray, List.set_cons_zero, List.set_cons_succ]
    refine ⟨.slice a l.length cap, .inl ⟨by rfl, fun w' hw' => ?_⟩, ?_⟩
    · obtain ⟨k0, k1, k2, k3, k4, k5, k6, k7, k8, k9, k10⟩ := Hc.out w' hw'
      go_simp
    simp only [Act.put, List.setIfInBounds_toArray, List.set_cons_zero, List.set_cons_succ]
    refine ⟨.int .i64 (z : Nat), .inl ⟨by rfl, fun w' hw' => ?_⟩, ?_⟩
    · go_simp
      exact HZ.out w' hw'.row
    simp only [Act.put, List.setIfInBounds_toArray, List.set_cons_zero, List.set_cons_succ]
    refine ⟨.bool true, .inl ⟨by rfl, fun w' hw' => ?_⟩, ?_⟩
    · go_simp
    simp only [Act.put, List.setIfInBounds_toArray, List.set_cons_zero, List.set_cons_succ]
    refine ⟨.bool true, .inl ⟨by rfl, fun w' hw' => ?_⟩, ?_⟩
    · go_simp
    simp only [Act.put, List.setIfInBounds_toArray, List.set_cons_zero, List.set_cons_succ]
    refine ⟨.bool true, .inl ⟨by rfl, fun w' hw' => ?_⟩, ?_⟩
    · go_simp
    simp only [Act.put, List.setIfInBounds_toArray, List.set_cons_zero, List.set_cons_succ]
    refine ⟨.pointer (some ⟨N, 9, none⟩), .inl ⟨by rfl, fun w' hw' => ?_⟩, ?_⟩
    · obtain ⟨k0, k1, k2, k3, k4, k5, k6, k7, k8, k9, k10⟩ := Hc.out w' hw'
      go_simp
    simp only [Act.put, List.setIfInBounds_toArray, List.set_cons_zero, List.set_cons_succ]
    refine ⟨.slice a l.length cap, .inl ⟨by rfl, fun w' hw' => ?_⟩, ?_⟩
    · obtain ⟨k0, k1, k2, k3, k4, k5, k6, k7, k8, k9, k10⟩ := Hc.out w' hw'
      go_simp
    simp only [Act.put, List.setIfInBounds_toArray, List.set_cons_zero, List.set_cons_succ]
    refine ⟨.int .i64 (z : Nat), .inl ⟨by rfl, fun w' hw' => ?_⟩, ?_⟩
    · go_simp
      exact HZ.out w' hw'.row
    simp only [Act.put, List.setIfInBounds_toArray, List.set_cons_zero, List.set_cons_succ]
    refine ⟨.int .i64 (Z0 : Nat), .inl ⟨by rfl, fun w' hw' => ?_⟩, ?_⟩
    · go_simp
    simp only [Act.put, List.setIfInBounds_toArray, List.set_cons_zero, List.set_cons_succ]
    refine ⟨.pointer (some ⟨N, 10, none⟩), .inl ⟨by rfl, fun w' hw' => ?_⟩, ?_⟩
    · obtain ⟨k0, k1, k2, k3, k4, k5, k6, k7, k8, k9, k10⟩ := Hc.out w' hw'
      go_simp
    simp only [Act.put, List.setIfInBounds_toArray, List.set_cons_zero, List.set_cons_succ]
    refine ⟨.string d, .inl ⟨by rfl, fun w' hw' => ?_⟩, ?_⟩
    · obtain ⟨k0, k1, k2, k3, k4, k5, k6, k7, k8, k9, k10⟩ := Hc.out w' hw'
      go_simp
    simp only [Act.put, List.setIfInBounds_toArray, List.set_cons_zero, List.set_cons_succ]
    refine ⟨.int .i64 (n : Nat), .inl ⟨by rfl, fun w' hw' => ?_⟩, ?_⟩
    · go_simp
    simp only [Act.put, List.setIfInBounds_toArray, List.set_cons_zero, List.set_cons_succ]
    refine ⟨.int .i64 (Z : Nat), .inl ⟨by rfl, fun w' hw' => ?_⟩, ?_⟩
    · go_simp
    simp only [Act.put, List.setIfInBounds_toArray, List.set_cons_zero, List.set_cons_succ]
    refine ⟨.bool false, .inl ⟨by rfl, fun w' hw' => ?_⟩, ?_⟩
    · go_simp
    simp only [Act.put, List.setIfInBounds_toArray, List.set_cons_zero, List.set_cons_succ]
    refine ⟨.bool false, .inl ⟨by rfl, fun w' hw' => ?_⟩, ?_⟩
    · go_simp
    simp only [Act.put, List.setIfInBounds_toArray, List.set_cons_zero, List.set_cons_succ]
    refine ⟨.bool false, .inl ⟨by rfl, fun w' hw' => ?_⟩, ?_⟩
    · go_simp
    simp only [Act.put, List.setIfInBounds_toArray, List.set_cons_zero, List.set_cons_succ]
    refine ⟨undef, .inr ⟨by rfl, rfl⟩, ?_⟩
    simp only [Act.put, List.setIfInBounds_toArray, List.set_cons_zero, List.set_cons_succ]
    refine ⟨undef, .inr ⟨by rfl, rfl⟩, ?_⟩
    simp only [Act.put, List.setIfInBounds_toArray, List.set_cons_zero, List.set_cons_succ]
    refine ⟨undef, .inr ⟨by rfl, rfl⟩, ?_⟩
    simp only [Act.put, List.setIfInBounds_toArray, List.set_cons_zero, List.set_cons_succ]
    refine ⟨undef, .inr ⟨by rfl, rfl⟩, ?_⟩
    simp only [Act.put, List.setIfInBounds_toArray, List.set_cons_zero, List.set_cons_succ]
    refine ⟨undef, .inr ⟨by rfl, rfl⟩, ?_⟩
    simp only [Act.put, List.setIfInBounds_toArray, List.set_cons_zero, List.set_cons_succ]
    refine ⟨undef, .inr ⟨by rfl, rfl⟩, ?_⟩
    simp only [Act.put, List.setIfInBounds_toArray, List.set_cons_zero, List.set_cons_succ]
    refine ⟨undef, .inr ⟨by rfl, rfl⟩, ?_⟩
    simp only [Act.put, List.setIfInBounds_toArray, List.set_cons_zero, List.set_cons_succ]
    refine ⟨.bool false, .inl ⟨by rfl, fun w' hw' => ?_⟩, ?_⟩
    · go_simp
    simp only [Act.put, List.setIfInBounds_toArray, List.set_cons_zero, List.set_cons_succ]
    refine ⟨.bool false, .inl ⟨by rfl, fun w' hw' => ?_⟩, ?_⟩
    · go_simp
    simp only [Act.put, List.setIfInBounds_toArray, List.set_cons_zero, List.set_cons_succ]
    rfl
  intro w3 hp3 hr
  have hb3w : Below N w w3 := hb0.trans (((Below.refl _ _).drew.trans hr).mono (by have := hb0.size; rw [hN] at this; simpa using this))
  clear hr hp0 hb0 HA HZ Hc
  go_wp2
  go_ret
  exact ⟨rfl, by rw [hN]; exact hb3w⟩

set_option maxHeartbeats 4000000 in
theorem refright_far (tos id : Int) (df mf : Bool) (off ttl proto src dst : Int) (a : Option Addr) (cap : Nat) (l : List Opt) (d : ByteArray) (w : World) (h : OptRow w a l) (hl : l.length ≤ 60) (hd : ∀ o ∈ l, o.data.size ≤ 100) (hds : d.size ≤ 70000) (h0 : 0 ≤ tos ∧ tos ≤ 255) (h1 : 0 ≤ ttl ∧ ttl ≤ 255) (h2 : 0 ≤ proto ∧ proto ≤ 255) (h3 : 0 ≤ id ∧ id ≤ 65535) (h4 : 0 ≤ off ∧ off ≤ 65528) (h5 : off % 8 = 0) (hA : l.all O.right = true) (hB : O.size l ≤ 40) (hC : 20 + O.size l + d.size ≤ 65535) :
    Calls Tryz.prog 7 #[pk tos id df mf off ttl proto src dst (.slice a l.length cap) d] w fun e w' => e = .returned (.bool (decide (off + (d.size : Int) ≤ 65535))) ∧ Below w.heap.size w w' := by
  have HA := Lib.hid (fun w' (h' : OptRow w' a l) => refAll_any a cap l w' h' (by unfold maxLen; omega) (fun o ho => by have := hd o ho; unfold maxLen; omega))
  rw [hA] at HA
  have HZ : Hid (∀ w', OptRow w' a l → Calls Tryz.prog 24 #[.slice a l.length cap] w' fun e w'' => e = .returned (.int .i64 (O.size l : Nat)) ∧ Below w'.heap.size w' w'') := Lib.hid (fun w' h' => (refSize_any a cap l w' h' hl hd).mono fun e w'' ⟨he, hw⟩ => ⟨he, by subst hw; exact Below.refl _ _⟩)
  have hzl : O.size l ≤ 6200 := by
    have := raw_le l hd
    have := O.pad_le (O.raw l)
    show O.raw l + O.pad (O.raw l) ≤ 6200
    omega
  have hp0 : PkAt w.heap.size (pkO tos id df mf off ttl proto src dst (.slice a l.length cap) d) a l (w.alloc (pkO tos id df mf off ttl proto src dst (.slice a l.length cap) d)) := ⟨heap_alloc_new w _, h.carry ((Below.refl _ w).alloc (Nat.le_refl _) _)⟩
  have hb0 : Below w.heap.size w (w.alloc (pkO tos id df mf off ttl proto src dst (.slice a l.length cap) d)) := (Below.refl _ w).alloc (Nat.le_refl _) _
  have Hc : Hid (∀ w' : World, PkAt w.heap.size (pkO tos id df mf off ttl proto src dst (.slice a l.length cap) d) a l w' → w'.cell? ⟨w.heap.size, 0, none⟩ = some (.int .i64 tos) ∧ w'.cell? ⟨w.heap.size, 1, none⟩ = some (.int .i64 id) ∧ w'.cell? ⟨w.heap.size, 2, none⟩ = some (.bool df) ∧ w'.cell? ⟨w.heap.size, 3, none⟩ = some (.bool mf) ∧ w'.cell? ⟨w.heap.size, 4, none⟩ = some (.int .i64 off) ∧ w'.cell? ⟨w.heap.size, 5, none⟩ = some (.int .i64 ttl) ∧ w'.cell? ⟨w.heap.size, 6, none⟩ = some (.int .i64 proto) ∧ w'.cell? ⟨w.heap.size, 7, none⟩ = some (.int .u32 src) ∧ w'.cell? ⟨w.heap.size, 8, none⟩ = some (.int .u32 dst) ∧ w'.cell? ⟨w.heap.size, 9, none⟩ = some ((.slice a l.length cap)) ∧ w'.cell? ⟨w.heap.size, 10, none⟩ = some (.string d)) :=
    Lib.hid fun w' hw' => by
      have q1 := hw'.blk
      simp [World.cell?, q1]
  obtain ⟨k0, k1, k2, k3, k4, k5, k6, k7, k8, k9, k10⟩ := Hc.out _ hp0
  have hmod : off.tmod 8 = off % 8 := Int.tmod_eq_emod_of_nonneg h4.1
  have hbn : (off % 8 != 0) = false := by simp [h5]
  have hb8 : (off % 8 == 0) = true := by simp [h5]
  clear h hl hd hA
  generalize O.size l = z at *
  generalize hn : d.size = n at *
  have q40 : decide ((z : Int) ≤ 40) = true := decide_eq_true (by omega)
  have hz0 : IntKind.i64.wrap (20 + (z : Int)) = ((20 + z : Nat) : Int) := by rw [IntWalk.i64_in _ (by omega)]; omega
  have hz1 : IntKind.i64.wrap (((20 + z : Nat) : Int) + (n : Int)) = ((20 + z + n : Nat) : Int) := by rw [IntWalk.i64_in _ (by omega)]; omega
  have hz2 : IntKind.i64.wrap (off + (n : Int)) = off + (n : Int) := IntWalk.i64_in _ (by omega)
  have q65 : decide (((20 + z + n : Nat) : Int) ≤ 65535) = true := decide_eq_true (by omega)
  generalize 20 + z + n = Z at *
  generalize 20 + z = Z0 at *
  go_enter Tryz.func7, Tryz.ntmps7
  go_wp2_with fail
  refine (refin_yes tos 255 _ h0).mono ?_
  rintro e w' ⟨rfl, rfl⟩
  go_wp2_with fail
  refine (refin_yes ttl 255 _ h1).mono ?_
  rintro e w' ⟨rfl, rfl⟩
  go_wp2_with fail
  refine (refin_yes proto 255 _ h2).mono ?_
  rintro e w' ⟨rfl, rfl⟩
  go_wp2_with fail
  refine (refin_yes id 65535 _ h3).mono ?_
  rintro e w' ⟨rfl, rfl⟩
  go_wp2_with fail
  refine (refin_yes off 65528 _ h4).mono ?_
  rintro e w' ⟨rfl, rfl⟩
  go_upto_region 3 with fail
  clear k0 k1 k2 k3 k4 k5 k6 k7 k8 k9 k10
  generalize hN : w.heap.size = N at *
  refine region_walk (PkAt N (pkO tos id df mf off ttl proto src dst (.slice a l.length cap) d) a l) (fun x y => Below x.heap.size x y) (by kernel_rfl) (by kernel_rfl) (by kernel_rfl) (fun x => Below.refl _ x) bel_trans (fun x y hx hr => hx.carry hr) (hp0.carry ((Below.refl _ _).drew)) ?_
  apply Exists.intro
  refine ⟨?_, ?_⟩
  · refine ⟨.pointer (some ⟨N, 9, none⟩), .inl ⟨by rfl, fun w' hw' => ?_⟩, ?_⟩
    · obtain ⟨k0, k1, k2, k3, k4, k5, k6, k7, k8, k9, k10⟩ := Hc.out w' hw'
      go_simp
    simp only [Act.put, List.setIfInBounds_toArray, List.set_cons_zero, List.set_cons_succ]
    refine ⟨.slice a l.length cap, .inl ⟨by rfl, fun w' hw' => ?_⟩, ?_⟩
    · obtain ⟨k0, k1, k2, k3, k4, k5, k6, k7, k8, k9, k10⟩ := Hc.out w' hw'
      go_simp
    simp only [Act.put, List.setIfInBounds_toArray, List.set_cons_zero, List.set_cons_succ]
    refine ⟨.bool true, .inl ⟨by rfl, fun w' hw' => ?_⟩, ?_⟩
    · go_simp
      exact HA.out w' hw'.row
    simp only [Act.put, List.setIfInBounds_toArray, List.set_cons_zero, List.set_cons_succ]
    refine ⟨.bool true, .inl ⟨by rfl, fun w' hw' => ?_⟩, ?_⟩
    · go_simp
    simp only [Act.put, List.setIfInBounds_toArray, List.set_cons_zero, List.set_cons_succ]
    refine ⟨.pointer (some ⟨N, 9, none⟩), .inl ⟨by rfl, fun w' hw' => ?_⟩, ?_⟩
    · obtain ⟨k0, k1, k2, k3, k4, k5, k6, k7, k8, k9, k10⟩ := Hc.out w' hw'
      go_simp
    simp only [Act.put, List.setIfInBounds_toArray, List.set_cons_zero, List.set_cons_succ]
    refine ⟨.slice a l.length cap, .inl ⟨by rfl, fun w' hw' => ?_⟩, ?_⟩
    · obtain ⟨k0, k1, k2, k3, k4, k5, k6, k7, k8, k9, k10⟩ := Hc.out w' hw'
      go_simp
    simp only [Act.put, List.setIfInBounds_toArray, List.set_cons_zero, List.set_cons_succ]
    refine ⟨.int .i64 (z : Nat), .inl ⟨by rfl, fun w' hw' => ?_⟩, ?_⟩
    · go_simp
      exact HZ.out w' hw'.row
    simp only [Act.put, List.setIfInBounds_toArray, List.set_cons_zero, List.set_cons_succ]
    refine ⟨.bool true, .inl ⟨by rfl, fun w' hw' => ?_⟩, ?_⟩
    · go_simp
    simp only [Act.put, List.setIfInBounds_toArray, List.set_cons_zero, List.set_cons_succ]
    refine ⟨.bool true, .inl ⟨by rfl, fun w' hw' => ?_⟩, ?_⟩
    · go_simp
    simp only [Act.put, List.setIfInBounds_toArray, List.set_cons_zero, List.set_cons_succ]
    refine ⟨.bool true, .inl ⟨by rfl, fun w' hw' => ?_⟩, ?_⟩
    · go_simp
    simp only [Act.put, List.setIfInBounds_toArray, List.set_cons_zero, List.set_cons_succ]
    refine ⟨.pointer (some ⟨N, 9, none⟩), .inl ⟨by rfl, fun w' hw' => ?_⟩, ?_⟩
    · obtain ⟨k0, k1, k2, k3, k4, k5, k6, k7, k8, k9, k10⟩ := Hc.out w' hw'
      go_simp
    simp only [Act.put, List.setIfInBounds_toArray, List.set_cons_zero, List.set_cons_succ]
    refine ⟨.slice a l.length cap, .inl ⟨by rfl, fun w' hw' => ?_⟩, ?_⟩
    · obtain ⟨k0, k1, k2, k3, k4, k5, k6, k7, k8, k9, k10⟩ := Hc.out w' hw'
      go_simp
    simp only [Act.put, List.setIfInBounds_toArray, List.set_cons_zero, List.set_cons_succ]
    refine ⟨.int .i64 (z : Nat), .inl ⟨by rfl, fun w' hw' => ?_⟩, ?_⟩
    · go_simp
      exact HZ.out w' hw'.row
    simp only [Act.put, List.setIfInBounds_toArray, List.set_cons_zero, List.set_cons_succ]
    refine ⟨.int .i64 (Z0 : Nat), .inl ⟨by rfl, fun w' hw' => ?_⟩, ?_⟩
    · go_simp
    simp only [Act.put, List.setIfInBounds_toArray, List.set_cons_zero, List.set_cons_succ]
    refine ⟨.pointer (some ⟨N, 10, none⟩), .inl ⟨by rfl, fun w' hw' => ?_⟩, ?_⟩
    · obtain ⟨k0, k1, k2, k3, k4, k5, k6, k7, k8, k9, k10⟩ := Hc.out w' hw'
      go_simp
    simp only [Act.put, List.setIfInBounds_toArray, List.set_cons_zero, List.set_cons_succ]
    refine ⟨.string d, .inl ⟨by rfl, fun w' hw' => ?_⟩, ?_⟩
    · obtain ⟨k0, k1, k2, k3, k4, k5, k6, k7, k8, k9, k10⟩ := Hc.out w' hw'
      go_simp
    simp only [Act.put, List.setIfInBounds_toArray, List.set_cons_zero, List.set_cons_succ]
    refine ⟨.int .i64 (n : Nat), .inl ⟨by rfl, fun w' hw' => ?_⟩, ?_⟩
    · go_simp
    simp only [Act.put, List.setIfInBounds_toArray, List.set_cons_zero, List.set_cons_succ]
    refine ⟨.int .i64 (Z : Nat), .inl ⟨by rfl, fun w' hw' => ?_⟩, ?_⟩
    · go_simp
    simp only [Act.put, List.setIfInBounds_toArray, List.set_cons_zero, List.set_cons_succ]
    refine ⟨.bool true, .inl ⟨by rfl, fun w' hw' => ?_⟩, ?_⟩
    · go_simp
    simp only [Act.put, List.setIfInBounds_toArray, List.set_cons_zero, List.set_cons_succ]
    refine ⟨.bool true, .inl ⟨by rfl, fun w' hw' => ?_⟩, ?_⟩
    · go_simp
    simp only [Act.put, List.setIfInBounds_toArray, List.set_cons_zero, List.set_cons_succ]
    refine ⟨.bool true, .inl ⟨by rfl, fun w' hw' => ?_⟩, ?_⟩
    · go_simp
    simp only [Act.put, List.setIfInBounds_toArray, List.set_cons_zero, List.set_cons_succ]
    refine ⟨.pointer (some ⟨N, 4, none⟩), .inl ⟨by rfl, fun w' hw' => ?_⟩, ?_⟩
    · obtain ⟨k0, k1, k2, k3, k4, k5, k6, k7, k8, k9, k10⟩ := Hc.out w' hw'
      go_simp
    simp only [Act.put, List.setIfInBounds_toArray, List.set_cons_zero, List.set_cons_succ]
    refine ⟨.int .i64 off, .inl ⟨by rfl, fun w' hw' => ?_⟩, ?_⟩
    · obtain ⟨k0, k1, k2, k3, k4, k5, k6, k7, k8, k9, k10⟩ := Hc.out w' hw'
      go_simp
    simp only [Act.put, List.setIfInBounds_toArray, List.set_cons_zero, List.set_cons_succ]
    refine ⟨.pointer (some ⟨N, 10, none⟩), .inl ⟨by rfl, fun w' hw' => ?_⟩, ?_⟩
    · obtain ⟨k0, k1, k2, k3, k4, k5, k6, k7, k8, k9, k10⟩ := Hc.out w' hw'
      go_simp
    simp only [Act.put, List.setIfInBounds_toArray, List.set_cons_zero, List.set_cons_succ]
    refine ⟨.string d, .inl ⟨by rfl, fun w' hw' => ?_⟩, ?_⟩
    · obtain ⟨k0, k1, k2, k3, k4, k5, k6, k7, k8, k9, k10⟩ := Hc.out w' hw'
      go_simp
    simp only [Act.put, List.setIfInBounds_toArray, List.set_cons_zero, List.set_cons_succ]
    refine ⟨.int .i64 (n : Nat), .inl ⟨by rfl, fun w' hw' => ?_⟩, ?_⟩
    · go_simp
    simp only [Act.put, List.setIfInBounds_toArray, List.set_cons_zero, List.set_cons_succ]
    refine ⟨.int .i64 (off + (n : Int)), .inl ⟨by rfl, fun w' hw' => ?_⟩, ?_⟩
    · go_simp
    simp only [Act.put, List.setIfInBounds_toArray, List.set_cons_zero, List.set_cons_succ]
    refine ⟨.bool (decide (off + (n : Int) ≤ 65535)), .inl ⟨by rfl, fun w' hw' => ?_⟩, ?_⟩
    · go_simp
    simp only [Act.put, List.setIfInBounds_toArray, List.set_cons_zero, List.set_cons_succ]
    refine ⟨.bool (decide (off + (n : Int) ≤ 65535)), .inl ⟨by rfl, fun w' hw' => ?_⟩, ?_⟩
    · go_simp
    simp only [Act.put, List.setIfInBounds_toArray, List.set_cons_zero, List.set_cons_succ]
    refine ⟨.bool (decide (off + (n : Int) ≤ 65535)), .inl ⟨by rfl, fun w' hw' => ?_⟩, ?_⟩
    · go_simp
    simp only [Act.put, List.setIfInBounds_toArray, List.set_cons_zero, List.set_cons_succ]
    rfl
  intro w3 hp3 hr
  have hb3w : Below N w w3 := hb0.trans (((Below.refl _ _).drew.trans hr).mono (by have := hb0.size; rw [hN] at this; simpa using this))
  clear hr hp0 hb0 HA HZ Hc
  go_wp2
  go_ret
  exact ⟨rfl, by rw [hN]; exact hb3w⟩

theorem refright_any (tos id : Int) (df mf : Bool) (off ttl proto src dst : Int) (a : Option Addr) (cap : Nat) (l : List Opt) (d : ByteArray) (w : World) (h : OptRow w a l) (hl : l.length ≤ 60) (hd : ∀ o ∈ l, o.data.size ≤ 100) (hds : d.size ≤ 70000) :
    Calls Tryz.prog 7 #[pk tos id df mf off ttl proto src dst (.slice a l.length cap) d] w fun e w' => e = .returned (.bool (H.right tos id off ttl proto l d.size)) ∧ Below w.heap.size w w' := by
  by_cases h0 : 0 ≤ tos ∧ tos ≤ 255
  case neg =>
    rw [H.right_no _ _ _ _ _ _ _ hds (fun hh => h0 hh.1.1)]
    exact refright_no0 tos id df mf off ttl proto src dst a cap l d w h hl hd hds  h0
  by_cases h1 : 0 ≤ ttl ∧ ttl ≤ 255
  case neg =>
    rw [H.right_no _ _ _ _ _ _ _ hds (fun hh => h1 hh.1.2.1)]
    exact refright_no1 tos id df mf off ttl proto src dst a cap l d w h hl hd hds h0 h1
  by_cases h2 : 0 ≤ proto ∧ proto ≤ 255
  case neg =>
    rw [H.right_no _ _ _ _ _ _ _ hds (fun hh => h2 hh.1.2.2.1)]
    exact refright_no2 tos id df mf off ttl proto src dst a cap l d w h hl hd hds h0 h1 h2
  by_cases h3 : 0 ≤ id ∧ id ≤ 65535
  case neg =>
    rw [H.right_no _ _ _ _ _ _ _ hds (fun hh => h3 hh.1.2.2.2.1)]
    exact refright_no3 tos id df mf off ttl proto src dst a cap l d w h hl hd hds h0 h1 h2 h3
  by_cases h4 : 0 ≤ off ∧ off ≤ 65528
  case neg =>
    rw [H.right_no _ _ _ _ _ _ _ hds (fun hh => h4 hh.1.2.2.2.2.1)]
    exact refright_no4 tos id df mf off ttl proto src dst a cap l d w h hl hd hds h0 h1 h2 h3 h4
  by_cases h5 : off % 8 = 0
  case neg =>
    rw [H.right_no _ _ _ _ _ _ _ hds (fun hh => h5 hh.1.2.2.2.2.2)]
    exact refright_no5 tos id df mf off ttl proto src dst a cap l d w h hl hd hds h0 h1 h2 h3 h4 h5
  cases hA : l.all O.right with
  | false =>
    rw [H.right_no _ _ _ _ _ _ _ hds (fun hh => by have := hh.2.1; rw [hA] at this; cases this)]
    exact refright_all tos id df mf off ttl proto src dst a cap l d w h hl hd hds h0 h1 h2 h3 h4 h5 hA
  | true =>
    by_cases hB : O.size l ≤ 40
    case neg =>
      rw [H.right_no _ _ _ _ _ _ _ hds (fun hh => hB hh.2.2.1)]
      exact refright_size tos id df mf off ttl proto src dst a cap l d w h hl hd hds h0 h1 h2 h3 h4 h5 hA hB
    by_cases hC : 20 + O.size l + d.size ≤ 65535
    case neg =>
      rw [H.right_no _ _ _ _ _ _ _ hds (fun hh => hC hh.2.2.2.1)]
      exact refright_whole tos id df mf off ttl proto src dst a cap l d w h hl hd hds h0 h1 h2 h3 h4 h5 hA hB hC
    have hv : H.right tos id off ttl proto l d.size = decide (off + (d.size : Int) ≤ 65535) := by
      rw [Bool.eq_iff_iff, H.right_iff _ _ _ _ _ _ _ hds, decide_eq_true_eq]
      exact ⟨fun hh => hh.2.2.2.2, fun hh => ⟨⟨h0, h1, h2, h3, h4, h5⟩, hA, hB, hC, hh⟩⟩
    rw [hv]
    exact refright_far tos id df mf off ttl proto src dst a cap l d w h hl hd hds h0 h1 h2 h3 h4 h5 hA hB hC

theorem hwhole_any (tos id : Int) (df mf : Bool) (off ttl proto src dst : Int) (v : Value) (d : ByteArray) (w : World) :
    Calls Tryz.prog 9 #[pk tos id df mf off ttl proto src dst v d] w fun e w' => e = .returned (.bool (off == 0 && !mf)) ∧ Below w.heap.size w w' := by
  have hb0 : Below w.heap.size w (w.alloc (pkO tos id df mf off ttl proto src dst v d)) := (Below.refl _ w).alloc (Nat.le_refl _) _
  cases ho : (off == 0) with
  | false =>
    go_enter Tryz.func9, Tryz.ntmps9
    go_wp2
    go_ret
    exact ⟨rfl, hb0⟩
  | true =>
    go_enter Tryz.func9, Tryz.ntmps9
    go_wp2
    go_ret
    exact ⟨rfl, hb0⟩
#print axioms refright_any
#print axioms hwhole_any
end Go.Proofs.YtncnildpbccpaaaGreatDoor

namespace Go.Proofs.YtncnildpbccpaaaGreatDoor
open Go.RowKit
set_option linter.unusedVariables false

set_option maxHeartbeats 2000000 in
theorem hen_great (tos id : Int) (df mf : Bool) (off ttl proto src dst : Int) (a : Option Addr) (cap : Nat) (l : List Opt) (d : ByteArray) (w : World) (h : OptRow w a l) (hl : l.length ≤ maxLen) (hd : ∀ o ∈ l, o.data.size ≤ maxLen) (hx : d.size ≤ maxLen) (hg : H.great l d.size = true) :
    Calls Tryz.prog 3 #[pk tos id df mf off ttl proto src dst (.slice a l.length cap) d] w fun e w' => e = .returned (.bool true) ∧ Below w.heap.size w w' := by
  have hp0 : PkAt w.heap.size (pkO tos id df mf off ttl proto src dst (.slice a l.length cap) d) a l (w.alloc (pkO tos id df mf off ttl proto src dst (.slice a l.length cap) d)) := ⟨heap_alloc_new w _, h.carry ((Below.refl _ w).alloc (Nat.le_refl _) _)⟩
  have hb0 : Below w.heap.size w (w.alloc (pkO tos id df mf off ttl proto src dst (.slice a l.length cap) d)) := (Below.refl _ w).alloc (Nat.le_refl _) _
  have Hc : Hid (∀ w' : World, PkAt w.heap.size (pkO tos id df mf off ttl proto src dst (.slice a l.length cap) d) a l w' → w'.cell? ⟨w.heap.size, 0, none⟩ = some (.int .i64 tos) ∧ w'.cell? ⟨w.heap.size, 1, none⟩ = some (.int .i64 id) ∧ w'.cell? ⟨w.heap.size, 2, none⟩ = some (.bool df) ∧ w'.cell? ⟨w.heap.size, 3, none⟩ = some (.bool mf) ∧ w'.cell? ⟨w.heap.size, 4, none⟩ = some (.int .i64 off) ∧ w'.cell? ⟨w.heap.size, 5, none⟩ = some (.int .i64 ttl) ∧ w'.cell? ⟨w.heap.size, 6, none⟩ = some (.int .i64 proto) ∧ w'.cell? ⟨w.heap.size, 7, none⟩ = some (.int .u32 src) ∧ w'.cell? ⟨w.heap.size, 8, none⟩ = some (.int .u32 dst) ∧ w'.cell? ⟨w.heap.size, 9, none⟩ = some ((.slice a l.length cap)) ∧ w'.cell? ⟨w.heap.size, 10, none⟩ = some (.string d)) :=
    Lib.hid fun w' hw' => by
      have q1 := hw'.blk
      simp [World.cell?, q1]
  have HG := Lib.hid (fun w' (h' : OptRow w' a l) => hgreat_any tos id df mf off ttl proto src dst d a cap l w' h' hl hd hx)
  rw [hg] at HG
  clear h hl hd hx hg
  go_enter Tryz.func3, Tryz.ntmps3
  go_wp2_with fail
  refine (HG.out _ hp0.row).mono ?_
  rintro e w1 ⟨rfl, hb1⟩
  have hp1 := hp0.carry hb1
  have hbw1 := hb0.trans (hb1.mono hb0.size)
  obtain ⟨k0, k1, k2, k3, k4, k5, k6, k7, k8, k9, k10⟩ := Hc.out _ hp1
  clear hb1 hp0 hb0
  go_wp2_with fail
  refine (awake5_any _).mono ?_
  rintro e wA ⟨rfl, hbA⟩
  have hbAw := hbw1.trans (hbA.mono hbw1.size)
  clear hbA hbw1
  go_wp2
  go_ret
  exact ⟨rfl, hbAw⟩

set_option maxHeartbeats 4000000 in
theorem hen_yes0 (tos id : Int) (df mf : Bool) (off ttl proto src dst : Int) (a : Option Addr) (cap : Nat) (l : List Opt) (d : ByteArray) (w : World) (h : OptRow w a l) (hl : l.length ≤ maxLen) (hd : ∀ o ∈ l, o.data.size ≤ maxLen) (hx : d.size ≤ maxLen) (hg : H.great l d.size = false) (hr : H.right tos id off ttl proto l d.size = true) (ho : (off == 0) = true) (s : ByteArray) (n : Nat) (hs : s.size = n)
    (HE : Hid (∀ w', OptRow w' a l → Calls Tryz.prog 6 #[pk tos id df mf off ttl proto src dst (.slice a l.length cap) d] w' fun e w'' => e = .returned (.tuple #[.string s, .int .i64 0]) ∧ Below w'.heap.size w' w''))
    (HF : Hid (∀ w', OptRow w' a l → Calls Tryz.prog 10 #[pk tos id df mf off ttl proto src dst (.slice a l.length cap) d] w' fun e w'' => e = .returned (.string s) ∧ Below w'.heap.size w' w''))
    (HZ : Hid (∀ w', OptRow w' a l → Calls Tryz.prog 11 #[pk tos id df mf off ttl proto src dst (.slice a l.length cap) d] w' fun e w'' => e = .returned (.int .i64 (n : Nat)) ∧ Below w'.heap.size w' w'')) :
    Calls Tryz.prog 3 #[pk tos id df mf off ttl proto src dst (.slice a l.length cap) d] w fun e w' => e = .returned (.bool true) ∧ Below w.heap.size w w' := by
  have hp0 : PkAt w.heap.size (pkO tos id df mf off ttl proto src dst (.slice a l.length cap) d) a l (w.alloc (pkO tos id df mf off ttl proto src dst (.slice a l.length cap) d)) := ⟨heap_alloc_new w _, h.carry ((Below.refl _ w).alloc (Nat.le_refl _) _)⟩
  have hb0 : Below w.heap.size w (w.alloc (pkO tos id df mf off ttl proto src dst (.slice a l.length cap) d)) := (Below.refl _ w).alloc (Nat.le_refl _) _
  have Hc : Hid (∀ w' : World, PkAt w.heap.size (pkO tos id df mf off ttl proto src dst (.slice a l.length cap) d) a l w' → w'.cell? ⟨w.heap.size, 0, none⟩ = some (.int .i64 tos) ∧ w'.cell? ⟨w.heap.size, 1, none⟩ = some (.int .i64 id) ∧ w'.cell? ⟨w.heap.size, 2, none⟩ = some (.bool df) ∧ w'.cell? ⟨w.heap.size, 3, none⟩ = some (.bool mf) ∧ w'.cell? ⟨w.heap.size, 4, none⟩ = some (.int .i64 off) ∧ w'.cell? ⟨w.heap.size, 5, none⟩ = some (.int .i64 ttl) ∧ w'.cell? ⟨w.heap.size, 6, none⟩ = some (.int .i64 proto) ∧ w'.cell? ⟨w.heap.size, 7, none⟩ = some (.int .u32 src) ∧ w'.cell? ⟨w.heap.size, 8, none⟩ = some (.int .u32 dst) ∧ w'.cell? ⟨w.heap.size, 9, none⟩ = some ((.slice a l.length cap)) ∧ w'.cell? ⟨w.heap.size, 10, none⟩ = some (.string d)) :=
    Lib.hid fun w' hw' => by
      have q1 := hw'.blk
      simp [World.cell?, q1]
  have HG := Lib.hid (fun w' (h' : OptRow w' a l) => hgreat_any tos id df mf off ttl proto src dst d a cap l w' h' hl hd hx)
  rw [hg] at HG
  obtain ⟨g1, g2, g3⟩ := H.great_no _ _ hg
  have HQ := Lib.hid (fun w' (h' : OptRow w' a l) => refright_any tos id df mf off ttl proto src dst a cap l d w' h' g1 g2 (by omega))
  have HR := Lib.hid (fun w' (h' : OptRow w' a l) => hright_any tos id df mf off ttl proto src dst a cap l d w' h' g1 g2 (by omega))
  rw [hr] at HQ HR
  have HW := Lib.hid (fun w' => hwhole_any tos id df mf off ttl proto src dst (.slice a l.length cap) d w')
  rw [ho] at HW
  have HWH : Hid ((!mf) = (true && !mf)) := Lib.hid (by simp)
  generalize (true && !mf) = WH at *
  clear h hl hd hx g1 g2 g3 hg hr
  go_enter Tryz.func3, Tryz.ntmps3
  go_wp2_with fail
  refine (HG.out _ hp0.row).mono ?_
  rintro e w1 ⟨rfl, hb1⟩
  have hp1 := hp0.carry hb1
  have hbw1 := hb0.trans (hb1.mono hb0.size)
  obtain ⟨k0, k1, k2, k3, k4, k5, k6, k7, k8, k9, k10⟩ := Hc.out _ hp1
  clear hb1 hp0 hb0
  go_wp2_with fail
  refine (HE.out _ hp1.row).mono ?_
  rintro e w2 ⟨rfl, hb2⟩
  have hp2 := hp1.carry hb2
  have hbw2 := hbw1.trans (hb2.mono hbw1.size)
  clear k0 k1 k2 k3 k4 k5 k6 k7 k8 k9 k10
  obtain ⟨k0, k1, k2, k3, k4, k5, k6, k7, k8, k9, k10⟩ := Hc.out _ hp2
  clear hb2 hp1 hbw1
  go_wp2_with fail
  refine (HQ.out _ hp2.row).mono ?_
  rintro e w3 ⟨rfl, hb3⟩
  have hp3 := hp2.carry hb3
  have hbw3 := hbw2.trans (hb3.mono hbw2.size)
  clear k0 k1 k2 k3 k4 k5 k6 k7 k8 k9 k10
  obtain ⟨k0, k1, k2, k3, k4, k5, k6, k7, k8, k9, k10⟩ := Hc.out _ hp3
  clear hb3 hp2 hbw2
  clear HG HE HQ
  go_upto_region 5 with fail
  clear k0 k1 k2 k3 k4 k5 k6 k7 k8 k9 k10
  generalize hN : w.heap.size = N at *
  refine region_walk (PkAt N (pkO tos id df mf off ttl proto src dst (.slice a l.length cap) d) a l) (fun x y => Below x.heap.size x y) (by kernel_rfl) (by kernel_rfl) (by kernel_rfl) (fun x => Below.refl _ x) bel_trans (fun x y hx hr => hx.carry hr) (hp3.carry ((Below.refl _ _).drew)) ?_
  apply Exists.intro
  refine ⟨?_, ?_⟩
  · refine ⟨pk tos id df mf off ttl proto src dst (.slice a l.length cap) d, .inl ⟨by rfl, fun w' hw' => ?_⟩, ?_⟩
    · obtain ⟨k0, k1, k2, k3, k4, k5, k6, k7, k8, k9, k10⟩ := Hc.out w' hw'
      go_simp
    simp only [Act.put, List.setIfInBounds_toArray, List.set_cons_zero, List.set_cons_succ]
    refine ⟨.bool true, .inl ⟨by rfl, fun w' hw' => ?_⟩, ?_⟩
    · go_simp
      exact HR.out w' hw'.row
    simp only [Act.put, List.setIfInBounds_toArray, List.set_cons_zero, List.set_cons_succ]
    refine ⟨.bool true, .inl ⟨by rfl, fun w' hw' => ?_⟩, ?_⟩
    · go_simp
    simp only [Act.put, List.setIfInBounds_toArray, List.set_cons_zero, List.set_cons_succ]
    refine ⟨.bool false, .inl ⟨by rfl, fun w' hw' => ?_⟩, ?_⟩
    · go_simp
    simp only [Act.put, List.setIfInBounds_toArray, List.set_cons_zero, List.set_cons_succ]
    refine ⟨.bool false, .inl ⟨by rfl, fun w' hw' => ?_⟩, ?_⟩
    · go_simp
    simp only [Act.put, List.setIfInBounds_toArray, List.set_cons_zero, List.set_cons_succ]
    refine ⟨pk tos id df mf off ttl proto src dst (.slice a l.length cap) d, .inl ⟨by rfl, fun w' hw' => ?_⟩, ?_⟩
    · obtain ⟨k0, k1, k2, k3, k4, k5, k6, k7, k8, k9, k10⟩ := Hc.out w' hw'
      go_simp
    simp only [Act.put, List.setIfInBounds_toArray, List.set_cons_zero, List.set_cons_succ]
    refine ⟨.bool WH, .inl ⟨by rfl, fun w' hw' => ?_⟩, ?_⟩
    · go_simp
      exact HW.out w'
    simp only [Act.put, List.setIfInBounds_toArray, List.set_cons_zero, List.set_cons_succ]
    refine ⟨.pointer (some ⟨N, 4, none⟩), .inl ⟨by rfl, fun w' hw' => ?_⟩, ?_⟩
    · obtain ⟨k0, k1, k2, k3, k4, k5, k6, k7, k8, k9, k10⟩ := Hc.out w' hw'
      go_simp
    simp only [Act.put, List.setIfInBounds_toArray, List.set_cons_zero, List.set_cons_succ]
    refine ⟨.int .i64 off, .inl ⟨by rfl, fun w' hw' => ?_⟩, ?_⟩
    · obtain ⟨k0, k1, k2, k3, k4, k5, k6, k7, k8, k9, k10⟩ := Hc.out w' hw'
      go_simp
    simp only [Act.put, List.setIfInBounds_toArray, List.set_cons_zero, List.set_cons_succ]
    refine ⟨.bool true, .inl ⟨by rfl, fun w' hw' => ?_⟩, ?_⟩
    · go_simp
    simp only [Act.put, List.setIfInBounds_toArray, List.set_cons_zero, List.set_cons_succ]
    refine ⟨.bool true, .inl ⟨by rfl, fun w' hw' => ?_⟩, ?_⟩
    · go_simp
    simp only [Act.put, List.setIfInBounds_toArray, List.set_cons_zero, List.set_cons_succ]
    refine ⟨.pointer (some ⟨N, 3, none⟩), .inl ⟨by rfl, fun w' hw' => ?_⟩, ?_⟩
    · obtain ⟨k0, k1, k2, k3, k4, k5, k6, k7, k8, k9, k10⟩ := Hc.out w' hw'
      go_simp
    simp only [Act.put, List.setIfInBounds_toArray, List.set_cons_zero, List.set_cons_succ]
    refine ⟨.bool mf, .inl ⟨by rfl, fun w' hw' => ?_⟩, ?_⟩
    · obtain ⟨k0, k1, k2, k3, k4, k5, k6, k7, k8, k9, k10⟩ := Hc.out w' hw'
      go_simp
    simp only [Act.put, List.setIfInBounds_toArray, List.set_cons_zero, List.set_cons_succ]
    refine ⟨.bool (!mf), .inl ⟨by rfl, fun w' hw' => ?_⟩, ?_⟩
    · go_simp
    simp only [Act.put, List.setIfInBounds_toArray, List.set_cons_zero, List.set_cons_succ]
    refine ⟨.bool WH, .inl ⟨by rfl, fun w' hw' => ?_⟩, ?_⟩
    · have hwh := HWH.out
      go_simp
    simp only [Act.put, List.setIfInBounds_toArray, List.set_cons_zero, List.set_cons_succ]
    refine ⟨.bool false, .inl ⟨by rfl, fun w' hw' => ?_⟩, ?_⟩
    · have hwh := HWH.out
      go_simp
    simp only [Act.put, List.setIfInBounds_toArray, List.set_cons_zero, List.set_cons_succ]
    refine ⟨.bool false, .inl ⟨by rfl, fun w' hw' => ?_⟩, ?_⟩
    · go_simp
    simp only [Act.put, List.setIfInBounds_toArray, List.set_cons_zero, List.set_cons_succ]
    rfl
  intro w4 hp4 hr
  have hbw4 : Below N w w4 := hbw3.trans (((Below.refl _ _).drew.trans hr).mono (by have := hbw3.size; rw [hN] at this; simpa using this))
  clear hr hp3 hbw3 HR HW HWH
  obtain ⟨k0, k1, k2, k3, k4, k5, k6, k7, k8, k9, k10⟩ := Hc.out _ hp4
  go_wp2_with fail
  refine (HF.out _ hp4.row).mono ?_
  rintro e w5 ⟨rfl, hb5⟩
  have hp5 := hp4.carry hb5
  have hbw5 := hbw4.trans (hb5.mono (by rw [← hN]; exact hbw4.size))
  clear k0 k1 k2 k3 k4 k5 k6 k7 k8 k9 k10
  obtain ⟨k0, k1, k2, k3, k4, k5, k6, k7, k8, k9, k10⟩ := Hc.out _ hp5
  clear hb5 hp4 hbw4 HF
  go_wp2_with fail
  refine (HZ.out _ hp5.row).mono ?_
  rintro e w6 ⟨rfl, hb6⟩
  have hbw6 := hbw5.trans (hb6.mono (by rw [← hN]; exact hbw5.size))
  clear k0 k1 k2 k3 k4 k5 k6 k7 k8 k9 k10
  clear hb6 hp5 hbw5 HZ
  go_wp2_with fail
  refine (awake5_any _).mono ?_
  rintro e wA ⟨rfl, hbA⟩
  have hbAw := hbw6.trans (hbA.mono (by rw [← hN]; exact hbw6.size))
  clear hbA hbw6
  go_wp2
  go_ret
  exact ⟨rfl, by rw [hN]; exact hbAw⟩

set_option maxHeartbeats 4000000 in
theorem hen_yes1 (tos id : Int) (df mf : Bool) (off ttl proto src dst : Int) (a : Option Addr) (cap : Nat) (l : List Opt) (d : ByteArray) (w : World) (h : OptRow w a l) (hl : l.length ≤ maxLen) (hd : ∀ o ∈ l, o.data.size ≤ maxLen) (hx : d.size ≤ maxLen) (hg : H.great l d.size = false) (hr : H.right tos id off ttl proto l d.size = true) (ho : (off == 0) = false) (s : ByteArray) (n : Nat) (hs : s.size = n)
    (HE : Hid (∀ w', OptRow w' a l → Calls Tryz.prog 6 #[pk tos id df mf off ttl proto src dst (.slice a l.length cap) d] w' fun e w'' => e = .returned (.tuple #[.string s, .int .i64 0]) ∧ Below w'.heap.size w' w''))
    (HF : Hid (∀ w', OptRow w' a l → Calls Tryz.prog 10 #[pk tos id df mf off ttl proto src dst (.slice a l.length cap) d] w' fun e w'' => e = .returned (.string s) ∧ Below w'.heap.size w' w''))
    (HZ : Hid (∀ w', OptRow w' a l → Calls Tryz.prog 11 #[pk tos id df mf off ttl proto src dst (.slice a l.length cap) d] w' fun e w'' => e = .returned (.int .i64 (n : Nat)) ∧ Below w'.heap.size w' w'')) :
    Calls Tryz.prog 3 #[pk tos id df mf off ttl proto src dst (.slice a l.length cap) d] w fun e w' => e = .returned (.bool true) ∧ Below w.heap.size w w' := by
  have hp0 : PkAt w.heap.size (pkO tos id df mf off ttl proto src dst (.slice a l.length cap) d) a l (w.alloc (pkO tos id df mf off ttl proto src dst (.slice a l.length cap) d)) := ⟨heap_alloc_new w _, h.carry ((Below.refl _ w).alloc (Nat.le_refl _) _)⟩
  have hb0 : Below w.heap.size w (w.alloc (pkO tos id df mf off ttl proto src dst (.slice a l.length cap) d)) := (Below.refl _ w).alloc (Nat.le_refl _) _
  have Hc : Hid (∀ w' : World, PkAt w.heap.size (pkO tos id df mf off ttl proto src dst (.slice a l.length cap) d) a l w' → w'.cell? ⟨w.heap.size, 0, none⟩ = some (.int .i64 tos) ∧ w'.cell? ⟨w.heap.size, 1, none⟩ = some (.int .i64 id) ∧ w'.cell? ⟨w.heap.size, 2, none⟩ = some (.bool df) ∧ w'.cell? ⟨w.heap.size, 3, none⟩ = some (.bool mf) ∧ w'.cell? ⟨w.heap.size, 4, none⟩ = some (.int .i64 off) ∧ w'.cell? ⟨w.heap.size, 5, none⟩ = some (.int .i64 ttl) ∧ w'.cell? ⟨w.heap.size, 6, none⟩ = some (.int .i64 proto) ∧ w'.cell? ⟨w.heap.size, 7, none⟩ = some (.int .u32 src) ∧ w'.cell? ⟨w.heap.size, 8, none⟩ = some (.int .u32 dst) ∧ w'.cell? ⟨w.heap.size, 9, none⟩ = some ((.slice a l.length cap)) ∧ w'.cell? ⟨w.heap.size, 10, none⟩ = some (.string d)) :=
    Lib.hid fun w' hw' => by
      have q1 := hw'.blk
      simp [World.cell?, q1]
  have HG := Lib.hid (fun w' (h' : OptRow w' a l) => hgreat_any tos id df mf off ttl proto src dst d a cap l w' h' hl hd hx)
  rw [hg] at HG
  obtain ⟨g1, g2, g3⟩ := H.great_no _ _ hg
  have HQ := Lib.hid (fun w' (h' : OptRow w' a l) => refright_any tos id df mf off ttl proto src dst a cap l d w' h' g1 g2 (by omega))
  have HR := Lib.hid (fun w' (h' : OptRow w' a l) => hright_any tos id df mf off ttl proto src dst a cap l d w' h' g1 g2 (by omega))
  rw [hr] at HQ HR
  have HW := Lib.hid (fun w' => hwhole_any tos id df mf off ttl proto src dst (.slice a l.length cap) d w')
  rw [ho] at HW
  rw [Bool.false_and] at HW
  clear h hl hd hx g1 g2 g3 hg hr
  go_enter Tryz.func3, Tryz.ntmps3
  go_wp2_with fail
  refine (HG.out _ hp0.row).mono ?_
  rintro e w1 ⟨rfl, hb1⟩
  have hp1 := hp0.carry hb1
  have hbw1 := hb0.trans (hb1.mono hb0.size)
  obtain ⟨k0, k1, k2, k3, k4, k5, k6, k7, k8, k9, k10⟩ := Hc.out _ hp1
  clear hb1 hp0 hb0
  go_wp2_with fail
  refine (HE.out _ hp1.row).mono ?_
  rintro e w2 ⟨rfl, hb2⟩
  have hp2 := hp1.carry hb2
  have hbw2 := hbw1.trans (hb2.mono hbw1.size)
  clear k0 k1 k2 k3 k4 k5 k6 k7 k8 k9 k10
  obtain ⟨k0, k1, k2, k3, k4, k5, k6, k7, k8, k9, k10⟩ := Hc.out _ hp2
  clear hb2 hp1 hbw1
  go_wp2_with fail
  refine (HQ.out _ hp2.row).mono ?_
  rintro e w3 ⟨rfl, hb3⟩
  have hp3 := hp2.carry hb3
  have hbw3 := hbw2.trans (hb3.mono hbw2.size)
  clear k0 k1 k2 k3 k4 k5 k6 k7 k8 k9 k10
  obtain ⟨k0, k1, k2, k3, k4, k5, k6, k7, k8, k9, k10⟩ := Hc.out _ hp3
  clear hb3 hp2 hbw2
  clear HG HE HQ
  go_upto_region 5 with fail
  clear k0 k1 k2 k3 k4 k5 k6 k7 k8 k9 k10
  generalize hN : w.heap.size = N at *
  refine region_walk (PkAt N (pkO tos id df mf off ttl proto src dst (.slice a l.length cap) d) a l) (fun x y => Below x.heap.size x y) (by kernel_rfl) (by kernel_rfl) (by kernel_rfl) (fun x => Below.refl _ x) bel_trans (fun x y hx hr => hx.carry hr) (hp3.carry ((Below.refl _ _).drew)) ?_
  apply Exists.intro
  refine ⟨?_, ?_⟩
  · refine ⟨pk tos id df mf off ttl proto src dst (.slice a l.length cap) d, .inl ⟨by rfl, fun w' hw' => ?_⟩, ?_⟩
    · obtain ⟨k0, k1, k2, k3, k4, k5, k6, k7, k8, k9, k10⟩ := Hc.out w' hw'
      go_simp
    simp only [Act.put, List.setIfInBounds_toArray, List.set_cons_zero, List.set_cons_succ]
    refine ⟨.bool true, .inl ⟨by rfl, fun w' hw' => ?_⟩, ?_⟩
    · go_simp
      exact HR.out w' hw'.row
    simp only [Act.put, List.setIfInBounds_toArray, List.set_cons_zero, List.set_cons_succ]
    refine ⟨.bool true, .inl ⟨by rfl, fun w' hw' => ?_⟩, ?_⟩
    · go_simp
    simp only [Act.put, List.setIfInBounds_toArray, List.set_cons_zero, List.set_cons_succ]
    refine ⟨.bool false, .inl ⟨by rfl, fun w' hw' => ?_⟩, ?_⟩
    · go_simp
    simp only [Act.put, List.setIfInBounds_toArray, List.set_cons_zero, List.set_cons_succ]
    refine ⟨.bool false, .inl ⟨by rfl, fun w' hw' => ?_⟩, ?_⟩
    · go_simp
    simp only [Act.put, List.setIfInBounds_toArray, List.set_cons_zero, List.set_cons_succ]
    refine ⟨pk tos id df mf off ttl proto src dst (.slice a l.length cap) d, .inl ⟨by rfl, fun w' hw' => ?_⟩, ?_⟩
    · obtain ⟨k0, k1, k2, k3, k4, k5, k6, k7, k8, k9, k10⟩ := Hc.out w' hw'
      go_simp
    simp only [Act.put, List.setIfInBounds_toArray, List.set_cons_zero, List.set_cons_succ]
    refine ⟨.bool false, .inl ⟨by rfl, fun w' hw' => ?_⟩, ?_⟩
    · go_simp
      exact HW.out w'
    simp only [Act.put, List.setIfInBounds_toArray, List.set_cons_zero, List.set_cons_succ]
    refine ⟨.pointer (some ⟨N, 4, none⟩), .inl ⟨by rfl, fun w' hw' => ?_⟩, ?_⟩
    · obtain ⟨k0, k1, k2, k3, k4, k5, k6, k7, k8, k9, k10⟩ := Hc.out w' hw'
      go_simp
    simp only [Act.put, List.setIfInBounds_toArray, List.set_cons_zero, List.set_cons_succ]
    refine ⟨.int .i64 off, .inl ⟨by rfl, fun w' hw' => ?_⟩, ?_⟩
    · obtain ⟨k0, k1, k2, k3, k4, k5, k6, k7, k8, k9, k10⟩ := Hc.out w' hw'
      go_simp
    simp only [Act.put, List.setIfInBounds_toArray, List.set_cons_zero, List.set_cons_succ]
    refine ⟨.bool false, .inl ⟨by rfl, fun w' hw' => ?_⟩, ?_⟩
    · go_simp
    simp only [Act.put, List.setIfInBounds_toArray, List.set_cons_zero, List.set_cons_succ]
    refine ⟨.bool false, .inl ⟨by rfl, fun w' hw' => ?_⟩, ?_⟩
    · go_simp
    simp only [Act.put, List.setIfInBounds_toArray, List.set_cons_zero, List.set_cons_succ]
    refine ⟨undef, .inr ⟨by rfl, rfl⟩, ?_⟩
    simp only [Act.put, List.setIfInBounds_toArray, List.set_cons_zero, List.set_cons_succ]
    refine ⟨undef, .inr ⟨by rfl, rfl⟩, ?_⟩
    simp only [Act.put, List.setIfInBounds_toArray, List.set_cons_zero, List.set_cons_succ]
    refine ⟨undef, .inr ⟨by rfl, rfl⟩, ?_⟩
    simp only [Act.put, List.setIfInBounds_toArray, List.set_cons_zero, List.set_cons_succ]
    refine ⟨.bool false, .inl ⟨by rfl, fun w' hw' => ?_⟩, ?_⟩
    · go_simp
    simp only [Act.put, List.setIfInBounds_toArray, List.set_cons_zero, List.set_cons_succ]
    refine ⟨.bool false, .inl ⟨by rfl, fun w' hw' => ?_⟩, ?_⟩
    · go_simp
    simp only [Act.put, List.setIfInBounds_toArray, List.set_cons_zero, List.set_cons_succ]
    refine ⟨.bool false, .inl ⟨by rfl, fun w' hw' => ?_⟩, ?_⟩
    · go_simp
    simp only [Act.put, List.setIfInBounds_toArray, List.set_cons_zero, List.set_cons_succ]
    rfl
  intro w4 hp4 hr
  have hbw4 : Below N w w4 := hbw3.trans (((Below.refl _ _).drew.trans hr).mono (by have := hbw3.size; rw [hN] at this; simpa using this))
  clear hr hp3 hbw3 HR HW
  obtain ⟨k0, k1, k2, k3, k4, k5, k6, k7, k8, k9, k10⟩ := Hc.out _ hp4
  go_wp2_with fail
  refine (HF.out _ hp4.row).mono ?_
  rintro e w5 ⟨rfl, hb5⟩
  have hp5 := hp4.carry hb5
  have hbw5 := hbw4.trans (hb5.mono (by rw [← hN]; exact hbw4.size))
  clear k0 k1 k2 k3 k4 k5 k6 k7 k8 k9 k10
  obtain ⟨k0, k1, k2, k3, k4, k5, k6, k7, k8, k9, k10⟩ := Hc.out _ hp5
  clear hb5 hp4 hbw4 HF
  go_wp2_with fail
  refine (HZ.out _ hp5.row).mono ?_
  rintro e w6 ⟨rfl, hb6⟩
  have hbw6 := hbw5.trans (hb6.mono (by rw [← hN]; exact hbw5.size))
  clear k0 k1 k2 k3 k4 k5 k6 k7 k8 k9 k10
  clear hb6 hp5 hbw5 HZ
  go_wp2_with fail
  refine (awake5_any _).mono ?_
  rintro e wA ⟨rfl, hbA⟩
  have hbAw := hbw6.trans (hbA.mono (by rw [← hN]; exact hbw6.size))
  clear hbA hbw6
  go_wp2
  go_ret
  exact ⟨rfl, by rw [hN]; exact hbAw⟩

set_option maxHeartbeats 4000000 in
theorem hen_no0 (tos id : Int) (df mf : Bool) (off ttl proto src dst : Int) (a : Option Addr) (cap : Nat) (l : List Opt) (d : ByteArray) (w : World) (h : OptRow w a l) (hl : l.length ≤ maxLen) (hd : ∀ o ∈ l, o.data.size ≤ maxLen) (hx : d.size ≤ maxLen) (hg : H.great l d.size = false) (hr : H.right tos id off ttl proto l d.size = false) (ho : (off == 0) = true) (s : ByteArray) (n : Nat) (hs : s.size = n)
    (HE : Hid (∀ w', OptRow w' a l → Calls Tryz.prog 6 #[pk tos id df mf off ttl proto src dst (.slice a l.length cap) d] w' fun e w'' => e = .returned (.tuple #[.string s, .int .i64 1]) ∧ Below w'.heap.size w' w''))
    (hs0 : s = ⟨#[]⟩) :
    Calls Tryz.prog 3 #[pk tos id df mf off ttl proto src dst (.slice a l.length cap) d] w fun e w' => e = .returned (.bool true) ∧ Below w.heap.size w w' := by
  have hp0 : PkAt w.heap.size (pkO tos id df mf off ttl proto src dst (.slice a l.length cap) d) a l (w.alloc (pkO tos id df mf off ttl proto src dst (.slice a l.length cap) d)) := ⟨heap_alloc_new w _, h.carry ((Below.refl _ w).alloc (Nat.le_refl _) _)⟩
  have hb0 : Below w.heap.size w (w.alloc (pkO tos id df mf off ttl proto src dst (.slice a l.length cap) d)) := (Below.refl _ w).alloc (Nat.le_refl _) _
  have Hc : Hid (∀ w' : World, PkAt w.heap.size (pkO tos id df mf off ttl proto src dst (.slice a l.length cap) d) a l w' → w'.cell? ⟨w.heap.size, 0, none⟩ = some (.int .i64 tos) ∧ w'.cell? ⟨w.heap.size, 1, none⟩ = some (.int .i64 id) ∧ w'.cell? ⟨w.heap.size, 2, none⟩ = some (.bool df) ∧ w'.cell? ⟨w.heap.size, 3, none⟩ = some (.bool mf) ∧ w'.cell? ⟨w.heap.size, 4, none⟩ = some (.int .i64 off) ∧ w'.cell? ⟨w.heap.size, 5, none⟩ = some (.int .i64 ttl) ∧ w'.cell? ⟨w.heap.size, 6, none⟩ = some (.int .i64 proto) ∧ w'.cell? ⟨w.heap.size, 7, none⟩ = some (.int .u32 src) ∧ w'.cell? ⟨w.heap.size, 8, none⟩ = some (.int .u32 dst) ∧ w'.cell? ⟨w.heap.size, 9, none⟩ = some ((.slice a l.length cap)) ∧ w'.cell? ⟨w.heap.size, 10, none⟩ = some (.string d)) :=
    Lib.hid fun w' hw' => by
      have q1 := hw'.blk
      simp [World.cell?, q1]
  have HG := Lib.hid (fun w' (h' : OptRow w' a l) => hgreat_any tos id df mf off ttl proto src dst d a cap l w' h' hl hd hx)
  rw [hg] at HG
  obtain ⟨g1, g2, g3⟩ := H.great_no _ _ hg
  have HQ := Lib.hid (fun w' (h' : OptRow w' a l) => refright_any tos id df mf off ttl proto src dst a cap l d w' h' g1 g2 (by omega))
  have HR := Lib.hid (fun w' (h' : OptRow w' a l) => hright_any tos id df mf off ttl proto src dst a cap l d w' h' g1 g2 (by omega))
  rw [hr] at HQ HR
  have HW := Lib.hid (fun w' => hwhole_any tos id df mf off ttl proto src dst (.slice a l.length cap) d w')
  rw [ho] at HW
  have HWH : Hid ((!mf) = (true && !mf)) := Lib.hid (by simp)
  generalize (true && !mf) = WH at *
  clear h hl hd hx g1 g2 g3 hg hr
  go_enter Tryz.func3, Tryz.ntmps3
  go_wp2_with fail
  refine (HG.out _ hp0.row).mono ?_
  rintro e w1 ⟨rfl, hb1⟩
  have hp1 := hp0.carry hb1
  have hbw1 := hb0.trans (hb1.mono hb0.size)
  obtain ⟨k0, k1, k2, k3, k4, k5, k6, k7, k8, k9, k10⟩ := Hc.out _ hp1
  clear hb1 hp0 hb0
  go_wp2_with fail
  refine (HE.out _ hp1.row).mono ?_
  rintro e w2 ⟨rfl, hb2⟩
  have hp2 := hp1.carry hb2
  have hbw2 := hbw1.trans (hb2.mono hbw1.size)
  clear k0 k1 k2 k3 k4 k5 k6 k7 k8 k9 k10
  obtain ⟨k0, k1, k2, k3, k4, k5, k6, k7, k8, k9, k10⟩ := Hc.out _ hp2
  clear hb2 hp1 hbw1
  go_wp2_with fail
  refine (HQ.out _ hp2.row).mono ?_
  rintro e w3 ⟨rfl, hb3⟩
  have hp3 := hp2.carry hb3
  have hbw3 := hbw2.trans (hb3.mono hbw2.size)
  clear k0 k1 k2 k3 k4 k5 k6 k7 k8 k9 k10
  obtain ⟨k0, k1, k2, k3, k4, k5, k6, k7, k8, k9, k10⟩ := Hc.out _ hp3
  clear hb3 hp2 hbw2
  clear HG HE HQ
  go_upto_region 5 with fail
  clear k0 k1 k2 k3 k4 k5 k6 k7 k8 k9 k10
  generalize hN : w.heap.size = N at *
  refine region_walk (PkAt N (pkO tos id df mf off ttl proto src dst (.slice a l.length cap) d) a l) (fun x y => Below x.heap.size x y) (by kernel_rfl) (by kernel_rfl) (by kernel_rfl) (fun x => Below.refl _ x) bel_trans (fun x y hx hr => hx.carry hr) (hp3.carry ((Below.refl _ _).drew)) ?_
  apply Exists.intro
  refine ⟨?_, ?_⟩
  · refine ⟨pk tos id df mf off ttl proto src dst (.slice a l.length cap) d, .inl ⟨by rfl, fun w' hw' => ?_⟩, ?_⟩
    · obtain ⟨k0, k1, k2, k3, k4, k5, k6, k7, k8, k9, k10⟩ := Hc.out w' hw'
      go_simp
    simp only [Act.put, List.setIfInBounds_toArray, List.set_cons_zero, List.set_cons_succ]
    refine ⟨.bool false, .inl ⟨by rfl, fun w' hw' => ?_⟩, ?_⟩
    · go_simp
      exact HR.out w' hw'.row
    simp only [Act.put, List.setIfInBounds_toArray, List.set_cons_zero, List.set_cons_succ]
    refine ⟨.bool false, .inl ⟨by rfl, fun w' hw' => ?_⟩, ?_⟩
    · go_simp
    simp only [Act.put, List.setIfInBounds_toArray, List.set_cons_zero, List.set_cons_succ]
    refine ⟨.bool false, .inl ⟨by rfl, fun w' hw' => ?_⟩, ?_⟩
    · go_simp
    simp only [Act.put, List.setIfInBounds_toArray, List.set_cons_zero, List.set_cons_succ]
    refine ⟨.bool false, .inl ⟨by rfl, fun w' hw' => ?_⟩, ?_⟩
    · go_simp
    simp only [Act.put, List.setIfInBounds_toArray, List.set_cons_zero, List.set_cons_succ]
    refine ⟨pk tos id df mf off ttl proto src dst (.slice a l.length cap) d, .inl ⟨by rfl, fun w' hw' => ?_⟩, ?_⟩
    · obtain ⟨k0, k1, k2, k3, k4, k5, k6, k7, k8, k9, k10⟩ := Hc.out w' hw'
      go_simp
    simp only [Act.put, List.setIfInBounds_toArray, List.set_cons_zero, List.set_cons_succ]
    refine ⟨.bool WH, .inl ⟨by rfl, fun w' hw' => ?_⟩, ?_⟩
    · go_simp
      exact HW.out w'
    simp only [Act.put, List.setIfInBounds_toArray, List.set_cons_zero, List.set_cons_succ]
    refine ⟨.pointer (some ⟨N, 4, none⟩), .inl ⟨by rfl, fun w' hw' => ?_⟩, ?_⟩
    · obtain ⟨k0, k1, k2, k3, k4, k5, k6, k7, k8, k9, k10⟩ := Hc.out w' hw'
      go_simp
    simp only [Act.put, List.setIfInBounds_toArray, List.set_cons_zero, List.set_cons_succ]
    refine ⟨.int .i64 off, .inl ⟨by rfl, fun w' hw' => ?_⟩, ?_⟩
    · obtain ⟨k0, k1, k2, k3, k4, k5, k6, k7, k8, k9, k10⟩ := Hc.out w' hw'
      go_simp
    simp only [Act.put, List.setIfInBounds_toArray, List.set_cons_zero, List.set_cons_succ]
    refine ⟨.bool true, .inl ⟨by rfl, fun w' hw' => ?_⟩, ?_⟩
    · go_simp
    simp only [Act.put, List.setIfInBounds_toArray, List.set_cons_zero, List.set_cons_succ]
    refine ⟨.bool true, .inl ⟨by rfl, fun w' hw' => ?_⟩, ?_⟩
    · go_simp
    simp only [Act.put, List.setIfInBounds_toArray, List.set_cons_zero, List.set_cons_succ]
    refine ⟨.pointer (some ⟨N, 3, none⟩), .inl ⟨by rfl, fun w' hw' => ?_⟩, ?_⟩
    · obtain ⟨k0, k1, k2, k3, k4, k5, k6, k7, k8, k9, k10⟩ := Hc.out w' hw'
      go_simp
    simp only [Act.put, List.setIfInBounds_toArray, List.set_cons_zero, List.set_cons_succ]
    refine ⟨.bool mf, .inl ⟨by rfl, fun w' hw' => ?_⟩, ?_⟩
    · obtain ⟨k0, k1, k2, k3, k4, k5, k6, k7, k8, k9, k10⟩ := Hc.out w' hw'
      go_simp
    simp only [Act.put, List.setIfInBounds_toArray, List.set_cons_zero, List.set_cons_succ]
    refine ⟨.bool (!mf), .inl ⟨by rfl, fun w' hw' => ?_⟩, ?_⟩
    · go_simp
    simp only [Act.put, List.setIfInBounds_toArray, List.set_cons_zero, List.set_cons_succ]
    refine ⟨.bool WH, .inl ⟨by rfl, fun w' hw' => ?_⟩, ?_⟩
    · have hwh := HWH.out
      go_simp
    simp only [Act.put, List.setIfInBounds_toArray, List.set_cons_zero, List.set_cons_succ]
    refine ⟨.bool false, .inl ⟨by rfl, fun w' hw' => ?_⟩, ?_⟩
    · have hwh := HWH.out
      go_simp
    simp only [Act.put, List.setIfInBounds_toArray, List.set_cons_zero, List.set_cons_succ]
    refine ⟨.bool false, .inl ⟨by rfl, fun w' hw' => ?_⟩, ?_⟩
    · go_simp
    simp only [Act.put, List.setIfInBounds_toArray, List.set_cons_zero, List.set_cons_succ]
    rfl
  intro w4 hp4 hr
  have hbw4 : Below N w w4 := hbw3.trans (((Below.refl _ _).drew.trans hr).mono (by have := hbw3.size; rw [hN] at this; simpa using this))
  clear hr hp3 hbw3 HR HW HWH
  obtain ⟨k0, k1, k2, k3, k4, k5, k6, k7, k8, k9, k10⟩ := Hc.out _ hp4
  subst hs0
  go_wp2_with fail
  refine (awake5_any _).mono ?_
  rintro e wA ⟨rfl, hbA⟩
  have hbAw := hbw4.trans (hbA.mono (by rw [← hN]; exact hbw4.size))
  clear hbA hbw4
  go_wp2
  go_ret
  exact ⟨rfl, by rw [hN]; exact hbAw⟩

set_option maxHeartbeats 4000000 in
theorem hen_no1 (tos id : Int) (df mf : Bool) (off ttl proto src dst : Int) (a : Option Addr) (cap : Nat) (l : List Opt) (d : ByteArray) (w : World) (h : OptRow w a l) (hl : l.length ≤ maxLen) (hd : ∀ o ∈ l, o.data.size ≤ maxLen) (hx : d.size ≤ maxLen) (hg : H.great l d.size = false) (hr : H.right tos id off ttl proto l d.size = false) (ho : (off == 0) = false) (s : ByteArray) (n : Nat) (hs : s.size = n)
    (HE : Hid (∀ w', OptRow w' a l → Calls Tryz.prog 6 #[pk tos id df mf off ttl proto src dst (.slice a l.length cap) d] w' fun e w'' => e = .returned (.tuple #[.string s, .int .i64 1]) ∧ Below w'.heap.size w' w''))
    (hs0 : s = ⟨#[]⟩) :
    Calls Tryz.prog 3 #[pk tos id df mf off ttl proto src dst (.slice a l.length cap) d] w fun e w' => e = .returned (.bool true) ∧ Below w.heap.size w w' := by
  have hp0 : PkAt w.heap.size (pkO tos id df mf off ttl proto src dst (.slice a l.length cap) d) a l (w.alloc (pkO tos id df mf off ttl proto src dst (.slice a l.length cap) d)) := ⟨heap_alloc_new w _, h.carry ((Below.refl _ w).alloc (Nat.le_refl _) _)⟩
  have hb0 : Below w.heap.size w (w.alloc (pkO tos id df mf off ttl proto src dst (.slice a l.length cap) d)) := (Below.refl _ w).alloc (Nat.le_refl _) _
  have Hc : Hid (∀ w' : World, PkAt w.heap.size (pkO tos id df mf off ttl proto src dst (.slice a l.length cap) d) a l w' → w'.cell? ⟨w.heap.size, 0, none⟩ = some (.int .i64 tos) ∧ w'.cell? ⟨w.heap.size, 1, none⟩ = some (.int .i64 id) ∧ w'.cell? ⟨w.heap.size, 2, none⟩ = some (.bool df) ∧ w'.cell? ⟨w.heap.size, 3, none⟩ = some (.bool mf) ∧ w'.cell? ⟨w.heap.size, 4, none⟩ = some (.int .i64 off) ∧ w'.cell? ⟨w.heap.size, 5, none⟩ = some (.int .i64 ttl) ∧ w'.cell? ⟨w.heap.size, 6, none⟩ = some (.int .i64 proto) ∧ w'.cell? ⟨w.heap.size, 7, none⟩ = some (.int .u32 src) ∧ w'.cell? ⟨w.heap.size, 8, none⟩ = some (.int .u32 dst) ∧ w'.cell? ⟨w.heap.size, 9, none⟩ = some ((.slice a l.length cap)) ∧ w'.cell? ⟨w.heap.size, 10, none⟩ = some (.string d)) :=
    Lib.hid fun w' hw' => by
      have q1 := hw'.blk
      simp [World.cell?, q1]
  have HG := Lib.hid (fun w' (h' : OptRow w' a l) => hgreat_any tos id df mf off ttl proto src dst d a cap l w' h' hl hd hx)
  rw [hg] at HG
  obtain ⟨g1, g2, g3⟩ := H.great_no _ _ hg
  have HQ := Lib.hid (fun w' (h' : OptRow w' a l) => refright_any tos id df mf off ttl proto src dst a cap l d w' h' g1 g2 (by omega))
  have HR := Lib.hid (fun w' (h' : OptRow w' a l) => hright_any tos id df mf off ttl proto src dst a cap l d w' h' g1 g2 (by omega))
  rw [hr] at HQ HR
  have HW := Lib.hid (fun w' => hwhole_any tos id df mf off ttl proto src dst (.slice a l.length cap) d w')
  rw [ho] at HW
  rw [Bool.false_and] at HW
  clear h hl hd hx g1 g2 g3 hg hr
  go_enter Tryz.func3, Tryz.ntmps3
  go_wp2_with fail
  refine (HG.out _ hp0.row).mono ?_
  rintro e w1 ⟨rfl, hb1⟩
  have hp1 := hp0.carry hb1
  have hbw1 := hb0.trans (hb1.mono hb0.size)
  obtain ⟨k0, k1, k2, k3, k4, k5, k6, k7, k8, k9, k10⟩ := Hc.out _ hp1
  clear hb1 hp0 hb0
  go_wp2_with fail
  refine (HE.out _ hp1.row).mono ?_
  rintro e w2 ⟨rfl, hb2⟩
  have hp2 := hp1.carry hb2
  have hbw2 := hbw1.trans (hb2.mono hbw1.size)
  clear k0 k1 k2 k3 k4 k5 k6 k7 k8 k9 k10
  obtain ⟨k0, k1, k2, k3, k4, k5, k6, k7, k8, k9, k10⟩ := Hc.out _ hp2
  clear hb2 hp1 hbw1
  go_wp2_with fail
  refine (HQ.out _ hp2.row).mono ?_
  rintro e w3 ⟨rfl, hb3⟩
  have hp3 := hp2.carry hb3
  have hbw3 := hbw2.trans (hb3.mono hbw2.size)
  clear k0 k1 k2 k3 k4 k5 k6 k7 k8 k9 k10
  obtain ⟨k0, k1, k2, k3, k4, k5, k6, k7, k8, k9, k10⟩ := Hc.out _ hp3
  clear hb3 hp2 hbw2
  clear HG HE HQ
  go_upto_region 5 with fail
  clear k0 k1 k2 k3 k4 k5 k6 k7 k8 k9 k10
  generalize hN : w.heap.size = N at *
  refine region_walk (PkAt N (pkO tos id df mf off ttl proto src dst (.slice a l.length cap) d) a l) (fun x y => Below x.heap.size x y) (by kernel_rfl) (by kernel_rfl) (by kernel_rfl) (fun x => Below.refl _ x) bel_trans (fun x y hx hr => hx.carry hr) (hp3.carry ((Below.refl _ _).drew)) ?_
  apply Exists.intro
  refine ⟨?_, ?_⟩
  · refine ⟨pk tos id df mf off ttl proto src dst (.slice a l.length cap) d, .inl ⟨by rfl, fun w' hw' => ?_⟩, ?_⟩
    · obtain ⟨k0, k1, k2, k3, k4, k5, k6, k7, k8, k9, k10⟩ := Hc.out w' hw'
      go_simp
    simp only [Act.put, List.setIfInBounds_toArray, List.set_cons_zero, List.set_cons_succ]
    refine ⟨.bool false, .inl ⟨by rfl, fun w' hw' => ?_⟩, ?_⟩
    · go_simp
      exact HR.out w' hw'.row
    simp only [Act.put, List.setIfInBounds_toArray, List.set_cons_zero, List.set_cons_succ]
    refine ⟨.bool false, .inl ⟨by rfl, fun w' hw' => ?_⟩, ?_⟩
    · go_simp
    simp only [Act.put, List.setIfInBounds_toArray, List.set_cons_zero, List.set_cons_succ]
    refine ⟨.bool false, .inl ⟨by rfl, fun w' hw' => ?_⟩, ?_⟩
    · go_simp
    simp only [Act.put, List.setIfInBounds_toArray, List.set_cons_zero, List.set_cons_succ]
    refine ⟨.bool false, .inl ⟨by rfl, fun w' hw' => ?_⟩, ?_⟩
    · go_simp
    simp only [Act.put, List.setIfInBounds_toArray, List.set_cons_zero, List.set_cons_succ]
    refine ⟨pk tos id df mf off ttl proto src dst (.slice a l.length cap) d, .inl ⟨by rfl, fun w' hw' => ?_⟩, ?_⟩
    · obtain ⟨k0, k1, k2, k3, k4, k5, k6, k7, k8, k9, k10⟩ := Hc.out w' hw'
      go_simp
    simp only [Act.put, List.setIfInBounds_toArray, List.set_cons_zero, List.set_cons_succ]
    refine ⟨.bool false, .inl ⟨by rfl, fun w' hw' => ?_⟩, ?_⟩
    · go_simp
      exact HW.out w'
    simp only [Act.put, List.setIfInBounds_toArray, List.set_cons_zero, List.set_cons_succ]
    refine ⟨.pointer (some ⟨N, 4, none⟩), .inl ⟨by rfl, fun w' hw' => ?_⟩, ?_⟩
    · obtain ⟨k0, k1, k2, k3, k4, k5, k6, k7, k8, k9, k10⟩ := Hc.out w' hw'
      go_simp
    simp only [Act.put, List.setIfInBounds_toArray, List.set_cons_zero, List.set_cons_succ]
    refine ⟨.int .i64 off, .inl ⟨by rfl, fun w' hw' => ?_⟩, ?_⟩
    · obtain ⟨k0, k1, k2, k3, k4, k5, k6, k7, k8, k9, k10⟩ := Hc.out w' hw'
      go_simp
    simp only [Act.put, List.setIfInBounds_toArray, List.set_cons_zero, List.set_cons_succ]
    refine ⟨.bool false, .inl ⟨by rfl, fun w' hw' => ?_⟩, ?_⟩
    · go_simp
    simp only [Act.put, List.setIfInBounds_toArray, List.set_cons_zero, List.set_cons_succ]
    refine ⟨.bool false, .inl ⟨by rfl, fun w' hw' => ?_⟩, ?_⟩
    · go_simp
    simp only [Act.put, List.setIfInBounds_toArray, List.set_cons_zero, List.set_cons_succ]
    refine ⟨undef, .inr ⟨by rfl, rfl⟩, ?_⟩
    simp only [Act.put, List.setIfInBounds_toArray, List.set_cons_zero, List.set_cons_succ]
    refine ⟨undef, .inr ⟨by rfl, rfl⟩, ?_⟩
    simp only [Act.put, List.setIfInBounds_toArray, List.set_cons_zero, List.set_cons_succ]
    refine ⟨undef, .inr ⟨by rfl, rfl⟩, ?_⟩
    simp only [Act.put, List.setIfInBounds_toArray, List.set_cons_zero, List.set_cons_succ]
    refine ⟨.bool false, .inl ⟨by rfl, fun w' hw' => ?_⟩, ?_⟩
    · go_simp
    simp only [Act.put, List.setIfInBounds_toArray, List.set_cons_zero, List.set_cons_succ]
    refine ⟨.bool false, .inl ⟨by rfl, fun w' hw' => ?_⟩, ?_⟩
    · go_simp
    simp only [Act.put, List.setIfInBounds_toArray, List.set_cons_zero, List.set_cons_succ]
    refine ⟨.bool false, .inl ⟨by rfl, fun w' hw' => ?_⟩, ?_⟩
    · go_simp
    simp only [Act.put, List.setIfInBounds_toArray, List.set_cons_zero, List.set_cons_succ]
    rfl
  intro w4 hp4 hr
  have hbw4 : Below N w w4 := hbw3.trans (((Below.refl _ _).drew.trans hr).mono (by have := hbw3.size; rw [hN] at this; simpa using this))
  clear hr hp3 hbw3 HR HW
  obtain ⟨k0, k1, k2, k3, k4, k5, k6, k7, k8, k9, k10⟩ := Hc.out _ hp4
  subst hs0
  go_wp2_with fail
  refine (awake5_any _).mono ?_
  rintro e wA ⟨rfl, hbA⟩
  have hbAw := hbw4.trans (hbA.mono (by rw [← hN]; exact hbw4.size))
  clear hbA hbw4
  go_wp2
  go_ret
  exact ⟨rfl, by rw [hN]; exact hbAw⟩
#print axioms hen_yes0
end Go.Proofs.YtncnildpbccpaaaGreatDoor

