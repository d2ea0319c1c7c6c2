/- The walks of header.Same and of what is asked of a packet; the walk of HeaderBack. -/
import Derived.Test.YtncnildpbccpaaaDoorKq
import Derived.Laws.StructEq
import Derived.WalkKit
import Derived.ProofKit
import Derived.OpenShut
import Derived.Deep.Slices
set_option maxRecDepth 100000
namespace Go.Proofs.YtncnildpbccpaaaDoor
open Go.RowKit
set_option linter.unusedVariables false

theorem text_eq {x y : ByteArray} (h : x.toList = y.toList) : x = y := by
  rw [Lib.toList_data, Lib.toList_data] at h
  cases x
  cases y
  simp at h
  simp [h]

theorem guard_fields : Tryd.prog.eqGuardType Tryd.prog.depth 76 = false := by kernel_rfl

theorem eqf_yes (x0 x1 : Int) (x2 x3 : Bool) (x4 x5 x6 x7 x8 : Int) (x10 : ByteArray) (w : World) :
    (binOp .eql 76 (.agg #[.int .i64 x0, .int .i64 x1, .bool x2, .bool x3, .int .i64 x4, .int .i64 x5, .int .i64 x6, .int .u32 x7, .int .u32 x8, .string x10]) (.agg #[.int .i64 x0, .int .i64 x1, .bool x2, .bool x3, .int .i64 x4, .int .i64 x5, .int .i64 x6, .int .u32 x7, .int .u32 x8, .string x10])).run Tryd.prog w = .ok (.bool true) w := by
  have u3 := Tryd.underlying3
  have a3 := Tryd.isAgg3
  have z3 := Tryd.sizeOf3
  have u4 := Tryd.underlying4
  have a4 := Tryd.isAgg4
  have z4 := Tryd.sizeOf4
  have u5 := Tryd.underlying34
  have a5 := Tryd.isAgg34
  have z5 := Tryd.sizeOf34
  have u6 := Tryd.underlying9
  have a6 := Tryd.isAgg9
  have z6 := Tryd.sizeOf9
  have hS : Tryd.prog.underlying 76 = some (.struct (Tryd.prog.fieldsOf 76)) := by kernel_rfl
  have hp : Tryd.prog.stoodInHeld 76 = false := by kernel_rfl
  rw [run_eql_struct, show (10000 : Nat) = 9999 + 1 from rfl, run_equalIn_agg w 9999 76 _ _ hS hp]
  simp only [Program.fieldsOf, Tryd.underlying76]
  go_simp

theorem eqf_no (x0 x1 : Int) (x2 x3 : Bool) (x4 x5 x6 x7 x8 : Int) (x10 : ByteArray) (y0 y1 : Int) (y2 y3 : Bool) (y4 y5 y6 y7 y8 : Int) (y10 : ByteArray) (w : World) (h : ¬ (x0 = y0 ∧ x1 = y1 ∧ x2 = y2 ∧ x3 = y3 ∧ x4 = y4 ∧ x5 = y5 ∧ x6 = y6 ∧ x7 = y7 ∧ x8 = y8 ∧ x10 = y10)) :
    (binOp .eql 76 (.agg #[.int .i64 x0, .int .i64 x1, .bool x2, .bool x3, .int .i64 x4, .int .i64 x5, .int .i64 x6, .int .u32 x7, .int .u32 x8, .string x10]) (.agg #[.int .i64 y0, .int .i64 y1, .bool y2, .bool y3, .int .i64 y4, .int .i64 y5, .int .i64 y6, .int .u32 y7, .int .u32 y8, .string y10])).run Tryd.prog w = .ok (.bool false) w := by
  have u3 := Tryd.underlying3
  have a3 := Tryd.isAgg3
  have z3 := Tryd.sizeOf3
  have u4 := Tryd.underlying4
  have a4 := Tryd.isAgg4
  have z4 := Tryd.sizeOf4
  have u5 := Tryd.underlying34
  have a5 := Tryd.isAgg34
  have z5 := Tryd.sizeOf34
  have u6 := Tryd.underlying9
  have a6 := Tryd.isAgg9
  have z6 := Tryd.sizeOf9
  have hS : Tryd.prog.underlying 76 = some (.struct (Tryd.prog.fieldsOf 76)) := by kernel_rfl
  have hp : Tryd.prog.stoodInHeld 76 = false := by kernel_rfl
  rw [run_eql_struct, show (10000 : Nat) = 9999 + 1 from rfl, run_equalIn_agg w 9999 76 _ _ hS hp]
  simp only [Program.fieldsOf, Tryd.underlying76]
  go_simp
  intro h0 h1 h2 h3 h4 h5 h6 h7 h8 h10
  exact h ⟨h0, h1, h2, h3, h4, h5, h6, h7, h8, text_eq h10⟩

theorem ifs_no {α : Type} (x0 x1 : Int) (x2 x3 : Bool) (x4 x5 x6 x7 x8 : Int) (x10 : ByteArray) (y0 y1 : Int) (y2 y3 : Bool) (y4 y5 y6 y7 y8 : Int) (y10 : ByteArray) (A B : α) (h : ¬ (x0 = y0 ∧ x1 = y1 ∧ x2 = y2 ∧ x3 = y3 ∧ x4 = y4 ∧ x5 = y5 ∧ x6 = y6 ∧ x7 = y7 ∧ x8 = y8 ∧ x10 = y10)) :
    (if x0 = y0 then if x1 = y1 then if x2 = y2 then if x3 = y3 then if x4 = y4 then if x5 = y5 then if x6 = y6 then if x7 = y7 then if x8 = y8 then if x10.toList = y10.toList then A else B else B else B else B else B else B else B else B else B else B) = B := by
  by_cases h0 : ¬ x0 = y0
  · simp [h0]
  have h0 := Classical.not_not.1 h0
  by_cases h1 : ¬ x1 = y1
  · simp [h0, h1]
  have h1 := Classical.not_not.1 h1
  by_cases h2 : ¬ x2 = y2
  · simp [h0, h1, h2]
  have h2 := Classical.not_not.1 h2
  by_cases h3 : ¬ x3 = y3
  · simp [h0, h1, h2, h3]
  have h3 := Classical.not_not.1 h3
  by_cases h4 : ¬ x4 = y4
  · simp [h0, h1, h2, h3, h4]
  have h4 := Classical.not_not.1 h4
  by_cases h5 : ¬ x5 = y5
  · simp [h0, h1, h2, h3, h4, h5]
  have h5 := Classical.not_not.1 h5
  by_cases h6 : ¬ x6 = y6
  · simp [h0, h1, h2, h3, h4, h5, h6]
  have h6 := Classical.not_not.1 h6
  by_cases h7 : ¬ x7 = y7
  · simp [h0, h1, h2, h3, h4, h5, h6, h7]
  have h7 := Classical.not_not.1 h7
  by_cases h8 : ¬ x8 = y8
  · simp [h0, h1, h2, h3, h4, h5, h6, h7, h8]
  have h8 := Classical.not_not.1 h8
  by_cases h10 : x10.toList = y10.toList
  · exact absurd ⟨h0, h1, h2, h3, h4, h5, h6, h7, h8, text_eq h10⟩ h
  · simp [h0, h1, h2, h3, h4, h5, h6, h7, h8, h10]

set_option maxHeartbeats 1000000 in
theorem fields_any (x0 x1 : Int) (x2 x3 : Bool) (x4 x5 x6 x7 x8 : Int) (x10 : ByteArray) (v : Value) (w : World) (ho : ∃ o n c, v = .slice o n c) :
    Calls Tryd.prog 38 #[pk x0 x1 x2 x3 x4 x5 x6 x7 x8 v x10] w fun e w' => e = .returned (.agg #[.int .i64 x0, .int .i64 x1, .bool x2, .bool x3, .int .i64 x4, .int .i64 x5, .int .i64 x6, .int .u32 x7, .int .u32 x8, .string x10]) ∧ Below w.heap.size w w' := by
  obtain ⟨o, n, c, rfl⟩ := ho
  go_enter Tryd.func38, Tryd.ntmps38
  go_wp2
  exact bodyPost_ret (v := .agg #[.int .i64 x0, .int .i64 x1, .bool x2, .bool x3, .int .i64 x4, .int .i64 x5, .int .i64 x6, .int .u32 x7, .int .u32 x8, .string x10]) (by simp [results, Tryd.results38, go_sem]) rfl ⟨rfl, ((Below.refl _ w).alloc (Nat.le_refl _) _).alloc (by simp) _⟩

/-- Two packets' blocks, one behind the other, and their options. -/
structure Two (N : Nat) (X Y : Obj) (o1 o2 : Option Addr) (l m : List Opt) (w : World) : Prop where
  one : w.heap[N]? = some X
  two : w.heap[N + 1]? = some Y
  row1 : OptRow w o1 l
  row2 : OptRow w o2 m
theorem Two.carry {N : Nat} {X Y : Obj} {o1 o2 : Option Addr} {l m : List Opt} {w w' : World} (h : Two N X Y o1 o2 l m w) (hb : Below w.heap.size w w') : Two N X Y o1 o2 l m w' :=
  ⟨(hb.block _ (lt_of_block h.one)).trans h.one, (hb.block _ (lt_of_block h.two)).trans h.two, h.row1.carry hb, h.row2.carry hb⟩

set_option maxHeartbeats 2000000 in
theorem hsame_yes (x0 x1 : Int) (x2 x3 : Bool) (x4 x5 x6 x7 x8 : Int) (x10 : ByteArray) (o1 o2 : Option Addr) (c1 c2 : Nat) (l m : List Opt) (w : World) (h1 : OptRow w o1 l) (h2 : OptRow w o2 m) (hl : l.length ≤ maxLen) (hm : m.length ≤ maxLen) :
    Calls Tryd.prog 21 #[pk x0 x1 x2 x3 x4 x5 x6 x7 x8 (.slice o1 l.length c1) x10, pk x0 x1 x2 x3 x4 x5 x6 x7 x8 (.slice o2 m.length c2) x10] w fun e w' => e = .returned (.bool (sameB l m)) ∧ Below w.heap.size w w' := by
  have HF1 := Lib.hid (fun w => fields_any x0 x1 x2 x3 x4 x5 x6 x7 x8 x10 (.slice o1 l.length c1) w ⟨_, _, _, rfl⟩)
  have HF2 := Lib.hid (fun w => fields_any x0 x1 x2 x3 x4 x5 x6 x7 x8 x10 (.slice o2 m.length c2) w ⟨_, _, _, rfl⟩)
  have HEq := Lib.hid (fun w => eqf_yes x0 x1 x2 x3 x4 x5 x6 x7 x8 x10 w)
  have Hgd := Lib.hid guard_fields

  have hp0 : Two w.heap.size (pkO x0 x1 x2 x3 x4 x5 x6 x7 x8 (.slice o1 l.length c1) x10) (pkO x0 x1 x2 x3 x4 x5 x6 x7 x8 (.slice o2 m.length c2) x10) o1 o2 l m ((w.alloc (pkO x0 x1 x2 x3 x4 x5 x6 x7 x8 (.slice o1 l.length c1) x10)).alloc (pkO x0 x1 x2 x3 x4 x5 x6 x7 x8 (.slice o2 m.length c2) x10)) :=
    ⟨(Below.heap_alloc _ _ _ (by simp)).trans (heap_alloc_new w _), by have := heap_alloc_new (w.alloc (pkO x0 x1 x2 x3 x4 x5 x6 x7 x8 (.slice o1 l.length c1) x10)) (pkO x0 x1 x2 x3 x4 x5 x6 x7 x8 (.slice o2 m.length c2) x10); simpa using this, h1.carry (((Below.refl _ w).alloc (Nat.le_refl _) _).alloc (by simp) _), h2.carry (((Below.refl _ w).alloc (Nat.le_refl _) _).alloc (by simp) _)⟩
  have hb0 : Below w.heap.size w ((w.alloc (pkO x0 x1 x2 x3 x4 x5 x6 x7 x8 (.slice o1 l.length c1) x10)).alloc (pkO x0 x1 x2 x3 x4 x5 x6 x7 x8 (.slice o2 m.length c2) x10)) := ((Below.refl _ w).alloc (Nat.le_refl _) _).alloc (by simp) _
  have Hc : Hid (∀ w' : World, Two w.heap.size (pkO x0 x1 x2 x3 x4 x5 x6 x7 x8 (.slice o1 l.length c1) x10) (pkO x0 x1 x2 x3 x4 x5 x6 x7 x8 (.slice o2 m.length c2) x10) o1 o2 l m w' → (w'.cell? ⟨w.heap.size, 0, none⟩ = some (.int .i64 x0) ∧ w'.cell? ⟨w.heap.size, 1, none⟩ = some (.int .i64 x1) ∧ w'.cell? ⟨w.heap.size, 2, none⟩ = some (.bool x2) ∧ w'.cell? ⟨w.heap.size, 3, none⟩ = some (.bool x3) ∧ w'.cell? ⟨w.heap.size, 4, none⟩ = some (.int .i64 x4) ∧ w'.cell? ⟨w.heap.size, 5, none⟩ = some (.int .i64 x5) ∧ w'.cell? ⟨w.heap.size, 6, none⟩ = some (.int .i64 x6) ∧ w'.cell? ⟨w.heap.size, 7, none⟩ = some (.int .u32 x7) ∧ w'.cell? ⟨w.heap.size, 8, none⟩ = some (.int .u32 x8) ∧ w'.cell? ⟨w.heap.size, 9, none⟩ = some ((.slice o1 l.length c1)) ∧ w'.cell? ⟨w.heap.size, 10, none⟩ = some (.string x10)) ∧ (w'.cell? ⟨w.heap.size + 1, 0, none⟩ = some (.int .i64 x0) ∧ w'.cell? ⟨w.heap.size + 1, 1, none⟩ = some (.int .i64 x1) ∧ w'.cell? ⟨w.heap.size + 1, 2, none⟩ = some (.bool x2) ∧ w'.cell? ⟨w.heap.size + 1, 3, none⟩ = some (.bool x3) ∧ w'.cell? ⟨w.heap.size + 1, 4, none⟩ = some (.int .i64 x4) ∧ w'.cell? ⟨w.heap.size + 1, 5, none⟩ = some (.int .i64 x5) ∧ w'.cell? ⟨w.heap.size + 1, 6, none⟩ = some (.int .i64 x6) ∧ w'.cell? ⟨w.heap.size + 1, 7, none⟩ = some (.int .u32 x7) ∧ w'.cell? ⟨w.heap.size + 1, 8, none⟩ = some (.int .u32 x8) ∧ w'.cell? ⟨w.heap.size + 1, 9, none⟩ = some ((.slice o2 m.length c2)) ∧ w'.cell? ⟨w.heap.size + 1, 10, none⟩ = some (.string x10))) :=
    Lib.hid fun w' hw' => by
      have q1 := hw'.one
      have q2 := hw'.two
      simp [World.cell?, q1, q2]
  have HS : Hid (∀ w' : World, Two w.heap.size (pkO x0 x1 x2 x3 x4 x5 x6 x7 x8 (.slice o1 l.length c1) x10) (pkO x0 x1 x2 x3 x4 x5 x6 x7 x8 (.slice o2 m.length c2) x10) o1 o2 l m w' → Calls Tryd.prog 15 #[.slice o1 l.length c1, .slice o2 m.length c2] w' fun e w'' => e = .returned (.bool (sameB l m)) ∧ Below w'.heap.size w' w'') := Lib.hid fun w' hw' => optSame_any o1 o2 c1 c2 l m w' hw'.row1 hw'.row2 hl hm
  clear h1 h2 hl hm
  go_enter Tryd.func21, Tryd.ntmps21
  go_upto_region 1 with fail
  generalize hN : w.heap.size = N at *
  generalize ((w.alloc (pkO x0 x1 x2 x3 x4 x5 x6 x7 x8 (.slice o1 l.length c1) x10)).alloc (pkO x0 x1 x2 x3 x4 x5 x6 x7 x8 (.slice o2 m.length c2) x10)) = w0 at *
  refine region_walk (Two N (pkO x0 x1 x2 x3 x4 x5 x6 x7 x8 (.slice o1 l.length c1) x10) (pkO x0 x1 x2 x3 x4 x5 x6 x7 x8 (.slice o2 m.length c2) x10) o1 o2 l m) (fun x y => Below x.heap.size x y) (by kernel_rfl) (by kernel_rfl) (by kernel_rfl) (fun x => Below.refl _ x) bel_trans (fun x y hx hr => hx.carry hr) (hp0.carry ((Below.refl _ _).drew)) ?_
  apply Exists.intro
  refine ⟨?_, ?_⟩
  · refine ⟨pk x0 x1 x2 x3 x4 x5 x6 x7 x8 (.slice o1 l.length c1) x10, .inl ⟨by rfl, fun w' hw' => ?_⟩, ?_⟩
    · obtain ⟨⟨k0, k1, k2, k3, k4, k5, k6, k7, k8, k9, k10⟩, ⟨j0, j1, j2, j3, j4, j5, j6, j7, j8, j9, j10⟩⟩ := Hc.out w' hw'
      go_simp
    simp only [Act.put, List.setIfInBounds_toArray, List.set_cons_zero, List.set_cons_succ]
    refine ⟨.agg #[.int .i64 x0, .int .i64 x1, .bool x2, .bool x3, .int .i64 x4, .int .i64 x5, .int .i64 x6, .int .u32 x7, .int .u32 x8, .string x10], .inl ⟨by rfl, fun w' hw' => ?_⟩, ?_⟩
    · go_simp
      exact HF1.out w'
    simp only [Act.put, List.setIfInBounds_toArray, List.set_cons_zero, List.set_cons_succ]
    refine ⟨pk x0 x1 x2 x3 x4 x5 x6 x7 x8 (.slice o2 m.length c2) x10, .inl ⟨by rfl, fun w' hw' => ?_⟩, ?_⟩
    · obtain ⟨⟨k0, k1, k2, k3, k4, k5, k6, k7, k8, k9, k10⟩, ⟨j0, j1, j2, j3, j4, j5, j6, j7, j8, j9, j10⟩⟩ := Hc.out w' hw'
      go_simp
    simp only [Act.put, List.setIfInBounds_toArray, List.set_cons_zero, List.set_cons_succ]
    refine ⟨.agg #[.int .i64 x0, .int .i64 x1, .bool x2, .bool x3, .int .i64 x4, .int .i64 x5, .int .i64 x6, .int .u32 x7, .int .u32 x8, .string x10], .inl ⟨by rfl, fun w' hw' => ?_⟩, ?_⟩
    · go_simp
      exact HF2.out w'
    simp only [Act.put, List.setIfInBounds_toArray, List.set_cons_zero, List.set_cons_succ]
    refine ⟨.bool true, .inl ⟨by rfl, fun w' hw' => ?_⟩, ?_⟩
    · have hg := Hgd.out
      have he := HEq.out w'
      go_simp
    simp only [Act.put, List.setIfInBounds_toArray, List.set_cons_zero, List.set_cons_succ]
    refine ⟨.bool true, .inl ⟨by rfl, fun w' hw' => ?_⟩, ?_⟩
    · go_simp
    simp only [Act.put, List.setIfInBounds_toArray, List.set_cons_zero, List.set_cons_succ]
    refine ⟨.pointer (some ⟨N, 9, none⟩), .inl ⟨by rfl, fun w' hw' => ?_⟩, ?_⟩
    · obtain ⟨⟨k0, k1, k2, k3, k4, k5, k6, k7, k8, k9, k10⟩, ⟨j0, j1, j2, j3, j4, j5, j6, j7, j8, j9, j10⟩⟩ := Hc.out w' hw'
      go_simp
    simp only [Act.put, List.setIfInBounds_toArray, List.set_cons_zero, List.set_cons_succ]
    refine ⟨.slice o1 l.length c1, .inl ⟨by rfl, fun w' hw' => ?_⟩, ?_⟩
    · obtain ⟨⟨k0, k1, k2, k3, k4, k5, k6, k7, k8, k9, k10⟩, ⟨j0, j1, j2, j3, j4, j5, j6, j7, j8, j9, j10⟩⟩ := Hc.out w' hw'
      go_simp
    simp only [Act.put, List.setIfInBounds_toArray, List.set_cons_zero, List.set_cons_succ]
    refine ⟨.pointer (some ⟨N + 1, 9, none⟩), .inl ⟨by rfl, fun w' hw' => ?_⟩, ?_⟩
    · obtain ⟨⟨k0, k1, k2, k3, k4, k5, k6, k7, k8, k9, k10⟩, ⟨j0, j1, j2, j3, j4, j5, j6, j7, j8, j9, j10⟩⟩ := Hc.out w' hw'
      go_simp
    simp only [Act.put, List.setIfInBounds_toArray, List.set_cons_zero, List.set_cons_succ]
    refine ⟨.slice o2 m.length c2, .inl ⟨by rfl, fun w' hw' => ?_⟩, ?_⟩
    · obtain ⟨⟨k0, k1, k2, k3, k4, k5, k6, k7, k8, k9, k10⟩, ⟨j0, j1, j2, j3, j4, j5, j6, j7, j8, j9, j10⟩⟩ := Hc.out w' hw'
      go_simp
    simp only [Act.put, List.setIfInBounds_toArray, List.set_cons_zero, List.set_cons_succ]
    refine ⟨.bool (sameB l m), .inl ⟨by rfl, fun w' hw' => ?_⟩, ?_⟩
    · go_simp
      exact HS.out w' hw'
    simp only [Act.put, List.setIfInBounds_toArray, List.set_cons_zero, List.set_cons_succ]
    refine ⟨.bool (sameB l m), .inl ⟨by rfl, fun w' hw' => ?_⟩, ?_⟩
    · go_simp
    simp only [Act.put, List.setIfInBounds_toArray, List.set_cons_zero, List.set_cons_succ]
    refine ⟨.bool (sameB l m), .inl ⟨by rfl, fun w' hw' => ?_⟩, ?_⟩
    · go_simp
    simp only [Act.put, List.setIfInBounds_toArray, List.set_cons_zero, List.set_cons_succ]
    rfl
  intro w1 _ hr
  have hbw : Below N w w1 := hb0.trans (((Below.refl _ _).drew.trans hr).mono (by have := hb0.size; rw [hN] at this; simpa using this))
  clear hr hp0 hb0
  go_wp2
  go_ret
  exact ⟨rfl, by rw [hN]; exact hbw⟩

set_option maxHeartbeats 2000000 in
theorem hsame_no (x0 x1 : Int) (x2 x3 : Bool) (x4 x5 x6 x7 x8 : Int) (x10 : ByteArray) (y0 y1 : Int) (y2 y3 : Bool) (y4 y5 y6 y7 y8 : Int) (y10 : ByteArray) (o1 o2 : Option Addr) (c1 c2 : Nat) (l m : List Opt) (w : World) (h1 : OptRow w o1 l) (h2 : OptRow w o2 m) (hl : l.length ≤ maxLen) (hm : m.length ≤ maxLen) (hno : ¬ (x0 = y0 ∧ x1 = y1 ∧ x2 = y2 ∧ x3 = y3 ∧ x4 = y4 ∧ x5 = y5 ∧ x6 = y6 ∧ x7 = y7 ∧ x8 = y8 ∧ x10 = y10)) :
    Calls Tryd.prog 21 #[pk x0 x1 x2 x3 x4 x5 x6 x7 x8 (.slice o1 l.length c1) x10, pk y0 y1 y2 y3 y4 y5 y6 y7 y8 (.slice o2 m.length c2) y10] w fun e w' => e = .returned (.bool (false)) ∧ Below w.heap.size w w' := by
  have HF1 := Lib.hid (fun w => fields_any x0 x1 x2 x3 x4 x5 x6 x7 x8 x10 (.slice o1 l.length c1) w ⟨_, _, _, rfl⟩)
  have HF2 := Lib.hid (fun w => fields_any y0 y1 y2 y3 y4 y5 y6 y7 y8 y10 (.slice o2 m.length c2) w ⟨_, _, _, rfl⟩)
  have HEq := Lib.hid (fun w => eqf_no x0 x1 x2 x3 x4 x5 x6 x7 x8 x10 y0 y1 y2 y3 y4 y5 y6 y7 y8 y10 w hno)
  have Hgd := Lib.hid guard_fields
  have Hno := Lib.hid hno
  have hp0 : Two w.heap.size (pkO x0 x1 x2 x3 x4 x5 x6 x7 x8 (.slice o1 l.length c1) x10) (pkO y0 y1 y2 y3 y4 y5 y6 y7 y8 (.slice o2 m.length c2) y10) o1 o2 l m ((w.alloc (pkO x0 x1 x2 x3 x4 x5 x6 x7 x8 (.slice o1 l.length c1) x10)).alloc (pkO y0 y1 y2 y3 y4 y5 y6 y7 y8 (.slice o2 m.length c2) y10)) :=
    ⟨(Below.heap_alloc _ _ _ (by simp)).trans (heap_alloc_new w _), by have := heap_alloc_new (w.alloc (pkO x0 x1 x2 x3 x4 x5 x6 x7 x8 (.slice o1 l.length c1) x10)) (pkO y0 y1 y2 y3 y4 y5 y6 y7 y8 (.slice o2 m.length c2) y10); simpa using this, h1.carry (((Below.refl _ w).alloc (Nat.le_refl _) _).alloc (by simp) _), h2.carry (((Below.refl _ w).alloc (Nat.le_refl _) _).alloc (by simp) _)⟩
  have hb0 : Below w.heap.size w ((w.alloc (pkO x0 x1 x2 x3 x4 x5 x6 x7 x8 (.slice o1 l.length c1) x10)).alloc (pkO y0 y1 y2 y3 y4 y5 y6 y7 y8 (.slice o2 m.length c2) y10)) := ((Below.refl _ w).alloc (Nat.le_refl _) _).alloc (by simp) _
  have Hc : Hid (∀ w' : World, Two w.heap.size (pkO x0 x1 x2 x3 x4 x5 x6 x7 x8 (.slice o1 l.length c1) x10) (pkO y0 y1 y2 y3 y4 y5 y6 y7 y8 (.slice o2 m.length c2) y10) o1 o2 l m w' → (w'.cell? ⟨w.heap.size, 0, none⟩ = some (.int .i64 x0) ∧ w'.cell? ⟨w.heap.size, 1, none⟩ = some (.int .i64 x1) ∧ w'.cell? ⟨w.heap.size, 2, none⟩ = some (.bool x2) ∧ w'.cell? ⟨w.heap.size, 3, none⟩ = some (.bool x3) ∧ w'.cell? ⟨w.heap.size, 4, none⟩ = some (.int .i64 x4) ∧ w'.cell? ⟨w.heap.size, 5, none⟩ = some (.int .i64 x5) ∧ w'.cell? ⟨w.heap.size, 6, none⟩ = some (.int .i64 x6) ∧ w'.cell? ⟨w.heap.size, 7, none⟩ = some (.int .u32 x7) ∧ w'.cell? ⟨w.heap.size, 8, none⟩ = some (.int .u32 x8) ∧ w'.cell? ⟨w.heap.size, 9, none⟩ = some ((.slice o1 l.length c1)) ∧ w'.cell? ⟨w.heap.size, 10, none⟩ = some (.string x10)) ∧ (w'.cell? ⟨w.heap.size + 1, 0, none⟩ = some (.int .i64 y0) ∧ w'.cell? ⟨w.heap.size + 1, 1, none⟩ = some (.int .i64 y1) ∧ w'.cell? ⟨w.heap.size + 1, 2, none⟩ = some (.bool y2) ∧ w'.cell? ⟨w.heap.size + 1, 3, none⟩ = some (.bool y3) ∧ w'.cell? ⟨w.heap.size + 1, 4, none⟩ = some (.int .i64 y4) ∧ w'.cell? ⟨w.heap.size + 1, 5, none⟩ = some (.int .i64 y5) ∧ w'.cell? ⟨w.heap.size + 1, 6, none⟩ = some (.int .i64 y6) ∧ w'.cell? ⟨w.heap.size + 1, 7, none⟩ = some (.int .u32 y7) ∧ w'.cell? ⟨w.heap.size + 1, 8, none⟩ = some (.int .u32 y8) ∧ w'.cell? ⟨w.heap.size + 1, 9, none⟩ = some ((.slice o2 m.length c2)) ∧ w'.cell? ⟨w.heap.size + 1, 10, none⟩ = some (.string y10))) :=
    Lib.hid fun w' hw' => by
      have q1 := hw'.one
      have q2 := hw'.two
      simp [World.cell?, q1, q2]
  clear h1 h2 hl hm
  go_enter Tryd.func21, Tryd.ntmps21
  go_upto_region 1 with fail
  generalize hN : w.heap.size = N at *
  generalize ((w.alloc (pkO x0 x1 x2 x3 x4 x5 x6 x7 x8 (.slice o1 l.length c1) x10)).alloc (pkO y0 y1 y2 y3 y4 y5 y6 y7 y8 (.slice o2 m.length c2) y10)) = w0 at *
  refine region_walk (Two N (pkO x0 x1 x2 x3 x4 x5 x6 x7 x8 (.slice o1 l.length c1) x10) (pkO y0 y1 y2 y3 y4 y5 y6 y7 y8 (.slice o2 m.length c2) y10) o1 o2 l m) (fun x y => Below x.heap.size x y) (by kernel_rfl) (by kernel_rfl) (by kernel_rfl) (fun x => Below.refl _ x) bel_trans (fun x y hx hr => hx.carry hr) (hp0.carry ((Below.refl _ _).drew)) ?_
  apply Exists.intro
  refine ⟨?_, ?_⟩
  · refine ⟨pk x0 x1 x2 x3 x4 x5 x6 x7 x8 (.slice o1 l.length c1) x10, .inl ⟨by rfl, fun w' hw' => ?_⟩, ?_⟩
    · obtain ⟨⟨k0, k1, k2, k3, k4, k5, k6, k7, k8, k9, k10⟩, ⟨j0, j1, j2, j3, j4, j5, j6, j7, j8, j9, j10⟩⟩ := Hc.out w' hw'
      go_simp
    simp only [Act.put, List.setIfInBounds_toArray, List.set_cons_zero, List.set_cons_succ]
    refine ⟨.agg #[.int .i64 x0, .int .i64 x1, .bool x2, .bool x3, .int .i64 x4, .int .i64 x5, .int .i64 x6, .int .u32 x7, .int .u32 x8, .string x10], .inl ⟨by rfl, fun w' hw' => ?_⟩, ?_⟩
    · go_simp
      exact HF1.out w'
    simp only [Act.put, List.setIfInBounds_toArray, List.set_cons_zero, List.set_cons_succ]
    refine ⟨pk y0 y1 y2 y3 y4 y5 y6 y7 y8 (.slice o2 m.length c2) y10, .inl ⟨by rfl, fun w' hw' => ?_⟩, ?_⟩
    · obtain ⟨⟨k0, k1, k2, k3, k4, k5, k6, k7, k8, k9, k10⟩, ⟨j0, j1, j2, j3, j4, j5, j6, j7, j8, j9, j10⟩⟩ := Hc.out w' hw'
      go_simp
    simp only [Act.put, List.setIfInBounds_toArray, List.set_cons_zero, List.set_cons_succ]
    refine ⟨.agg #[.int .i64 y0, .int .i64 y1, .bool y2, .bool y3, .int .i64 y4, .int .i64 y5, .int .i64 y6, .int .u32 y7, .int .u32 y8, .string y10], .inl ⟨by rfl, fun w' hw' => ?_⟩, ?_⟩
    · go_simp
      exact HF2.out w'
    simp only [Act.put, List.setIfInBounds_toArray, List.set_cons_zero, List.set_cons_succ]
    refine ⟨.bool false, .inl ⟨by rfl, fun w' hw' => ?_⟩, ?_⟩
    · have hg := Hgd.out
      go_simp
      rw [ifs_no _ _ _ _ _ _ _ _ _ _ _ _ _ _ _ _ _ _ _ _ _ _ Hno.out]
      exact ⟨rfl, rfl⟩
    simp only [Act.put, List.setIfInBounds_toArray, List.set_cons_zero, List.set_cons_succ]
    refine ⟨.bool false, .inl ⟨by rfl, fun w' hw' => ?_⟩, ?_⟩
    · go_simp
    simp only [Act.put, List.setIfInBounds_toArray, List.set_cons_zero, List.set_cons_succ]
    refine ⟨undef, .inr ⟨by rfl, rfl⟩, ?_⟩
    simp only [Act.put, List.setIfInBounds_toArray, List.set_cons_zero, List.set_cons_succ]
    refine ⟨undef, .inr ⟨by rfl, rfl⟩, ?_⟩
    simp only [Act.put, List.setIfInBounds_toArray, List.set_cons_zero, List.set_cons_succ]
    refine ⟨undef, .inr ⟨by rfl, rfl⟩, ?_⟩
    simp only [Act.put, List.setIfInBounds_toArray, List.set_cons_zero, List.set_cons_succ]
    refine ⟨undef, .inr ⟨by rfl, rfl⟩, ?_⟩
    simp only [Act.put, List.setIfInBounds_toArray, List.set_cons_zero, List.set_cons_succ]
    refine ⟨undef, .inr ⟨by rfl, rfl⟩, ?_⟩
    simp only [Act.put, List.setIfInBounds_toArray, List.set_cons_zero, List.set_cons_succ]
    refine ⟨.bool false, .inl ⟨by rfl, fun w' hw' => ?_⟩, ?_⟩
    · go_simp
    simp only [Act.put, List.setIfInBounds_toArray, List.set_cons_zero, List.set_cons_succ]
    refine ⟨.bool false, .inl ⟨by rfl, fun w' hw' => ?_⟩, ?_⟩
    · go_simp
    simp only [Act.put, List.setIfInBounds_toArray, List.set_cons_zero, List.set_cons_succ]
    rfl
  intro w1 _ hr
  have hbw : Below N w w1 := hb0.trans (((Below.refl _ _).drew.trans hr).mono (by have := hb0.size; rw [hN] at this; simpa using this))
  clear hr hp0 hb0
  go_wp2
  go_ret
  exact ⟨rfl, by rw [hN]; exact hbw⟩

theorem ref5_no (x0 x1 : Int) (x2 x3 : Bool) (x4 x5 x6 x7 x8 : Int) (x10 : ByteArray) (y0 y1 : Int) (y2 y3 : Bool) (y4 y5 y6 y7 y8 : Int) (y10 : ByteArray) (o1 o2 : Option Addr) (c1 c2 : Nat) (l m : List Opt) (w : World) (hno : ¬ (x0 = y0 ∧ x1 = y1 ∧ x2 = y2 ∧ x3 = y3 ∧ x4 = y4 ∧ x5 = y5 ∧ x6 = y6 ∧ x7 = y7 ∧ x8 = y8 ∧ x10 = y10)) :
    Calls Tryd.prog 19 #[pk x0 x1 x2 x3 x4 x5 x6 x7 x8 (.slice o1 l.length c1) x10, pk y0 y1 y2 y3 y4 y5 y6 y7 y8 (.slice o2 m.length c2) y10] w fun e w' => e = .returned (.bool false) ∧ Below w.heap.size w w' := by
  by_cases h0 : ¬ x0 = y0
  · exact same5_no0 x0 y0 x1 y1 x2 y2 x3 y3 x4 y4 x5 y5 x6 y6 x7 y7 x8 y8 x10 y10 o1 o2 c1 c2 l m w h0
  have h0 := Classical.not_not.1 h0
  subst h0
  by_cases h1 : ¬ x1 = y1
  · exact same5_no1 x0 x1 y1 x2 y2 x3 y3 x4 y4 x5 y5 x6 y6 x7 y7 x8 y8 x10 y10 o1 o2 c1 c2 l m w h1
  have h1 := Classical.not_not.1 h1
  subst h1
  by_cases h2 : ¬ x2 = y2
  · exact same5_no2 x0 x1 x2 y2 x3 y3 x4 y4 x5 y5 x6 y6 x7 y7 x8 y8 x10 y10 o1 o2 c1 c2 l m w h2
  have h2 := Classical.not_not.1 h2
  subst h2
  by_cases h3 : ¬ x3 = y3
  · exact same5_no3 x0 x1 x2 x3 y3 x4 y4 x5 y5 x6 y6 x7 y7 x8 y8 x10 y10 o1 o2 c1 c2 l m w h3
  have h3 := Classical.not_not.1 h3
  subst h3
  by_cases h4 : ¬ x4 = y4
  · exact same5_no4 x0 x1 x2 x3 x4 y4 x5 y5 x6 y6 x7 y7 x8 y8 x10 y10 o1 o2 c1 c2 l m w h4
  have h4 := Classical.not_not.1 h4
  subst h4
  by_cases h5 : ¬ x5 = y5
  · exact same5_no5 x0 x1 x2 x3 x4 x5 y5 x6 y6 x7 y7 x8 y8 x10 y10 o1 o2 c1 c2 l m w h5
  have h5 := Classical.not_not.1 h5
  subst h5
  by_cases h6 : ¬ x6 = y6
  · exact same5_no6 x0 x1 x2 x3 x4 x5 x6 y6 x7 y7 x8 y8 x10 y10 o1 o2 c1 c2 l m w h6
  have h6 := Classical.not_not.1 h6
  subst h6
  by_cases h7 : ¬ x7 = y7
  · exact same5_no7 x0 x1 x2 x3 x4 x5 x6 x7 y7 x8 y8 x10 y10 o1 o2 c1 c2 l m w h7
  have h7 := Classical.not_not.1 h7
  subst h7
  by_cases h8 : ¬ x8 = y8
  · exact same5_no8 x0 x1 x2 x3 x4 x5 x6 x7 x8 y8 x10 y10 o1 o2 c1 c2 l m w h8
  have h8 := Classical.not_not.1 h8
  subst h8
  by_cases h10 : ¬ x10 = y10
  · exact same5_no10 x0 x1 x2 x3 x4 x5 x6 x7 x8 x10 y10 o1 o2 c1 c2 l m w h10
  have h10 := Classical.not_not.1 h10
  subst h10
  exact absurd ⟨rfl, rfl, rfl, rfl, rfl, rfl, rfl, rfl, rfl, rfl⟩ hno
#print axioms hsame_yes
#print axioms hsame_no
#print axioms ref5_no
end Go.Proofs.YtncnildpbccpaaaDoor

namespace Go.Proofs.YtncnildpbccpaaaDoor
open Go.RowKit
set_option linter.unusedVariables false

/-- Is there more of a packet than is asked of? -/
def H.great (l : List Opt) (n : Nat) : Bool := O.great l || (decide (2000 < n) && decide (n < 65000)) || decide (66000 < n)

theorem H.great_no (l : List Opt) (n : Nat) (h : H.great l n = false) : l.length ≤ 60 ∧ (∀ o ∈ l, o.data.size ≤ 100) ∧ n ≤ 66000 := by
  unfold H.great O.great at h
  simp only [Bool.or_eq_false_iff, Bool.and_eq_false_iff, decide_eq_false_iff_not, List.any_eq_false, decide_eq_true_eq] at h
  obtain ⟨⟨⟨h1, h2⟩, h3⟩, h4⟩ := h
  exact ⟨by omega, fun o ho => by have := h1 o ho; omega, by omega⟩

set_option maxHeartbeats 1000000 in
theorem hgreat_any (x0 x1 : Int) (x2 x3 : Bool) (x4 x5 x6 x7 x8 : Int) (x10 : ByteArray) (a : Option Addr) (cap : Nat) (l : List Opt) (w : World) (h : OptRow w a l) (hl : l.length ≤ maxLen) (hd : ∀ o ∈ l, o.data.size ≤ maxLen) (hds : x10.size ≤ maxLen) :
    Calls Tryd.prog 20 #[pk x0 x1 x2 x3 x4 x5 x6 x7 x8 (.slice a l.length cap) x10] w fun e w' => e = .returned (.bool (H.great l x10.size)) ∧ Below w.heap.size w w' := by
  have hb0 : Below w.heap.size w (w.alloc (pkO x0 x1 x2 x3 x4 x5 x6 x7 x8 (.slice a l.length cap) x10)) := (Below.refl _ w).alloc (Nat.le_refl _) _
  have HG := Lib.hid (fun w' (h' : OptRow w' a l) => great_any a cap l w' h' hl hd)
  unfold maxLen at hds
  unfold H.great
  cases hg : O.great l with
  | true =>
    rw [hg] at HG
    go_enter Tryd.func20, Tryd.ntmps20
    go_wp2_with fail
    refine (HG.out _ (h.carry hb0)).mono ?_
    rintro e w1 ⟨rfl, rfl⟩
    go_wp2
    go_ret
    exact ⟨rfl, hb0⟩
  | false =>
    rw [hg] at HG
    by_cases h1 : 2000 < x10.size
    · by_cases h2 : x10.size < 65000
      · rw [decide_eq_true h1, decide_eq_true h2]
        go_enter Tryd.func20, Tryd.ntmps20
        go_wp2_with fail
        refine (HG.out _ (h.carry hb0)).mono ?_
        rintro e w1 ⟨rfl, rfl⟩
        have q1 : decide ((2000 : Int) < (x10.size : Int)) = true := decide_eq_true (by omega)
        have q2 : decide ((x10.size : Int) < 65000) = true := decide_eq_true (by omega)
        go_wp2
        go_ret
        exact ⟨rfl, hb0⟩
      · have e3 : decide (66000 < x10.size) = decide ((66000 : Int) < (x10.size : Int)) := by rw [Bool.eq_iff_iff]; simp; omega
        rw [decide_eq_true h1, decide_eq_false h2, e3]
        go_enter Tryd.func20, Tryd.ntmps20
        go_wp2_with fail
        refine (HG.out _ (h.carry hb0)).mono ?_
        rintro e w1 ⟨rfl, rfl⟩
        have q1 : decide ((2000 : Int) < (x10.size : Int)) = true := decide_eq_true (by omega)
        have q2 : decide ((x10.size : Int) < 65000) = false := decide_eq_false (by omega)
        go_wp2
        go_ret
        exact ⟨rfl, hb0⟩
    · have e3 : decide (66000 < x10.size) = false := decide_eq_false (by omega)
      rw [decide_eq_false h1, e3]
      go_enter Tryd.func20, Tryd.ntmps20
      go_wp2_with fail
      refine (HG.out _ (h.carry hb0)).mono ?_
      rintro e w1 ⟨rfl, rfl⟩
      have q1 : decide ((2000 : Int) < (x10.size : Int)) = false := decide_eq_false (by omega)
      have q3 : decide ((66000 : Int) < (x10.size : Int)) = false := decide_eq_false (by omega)
      go_wp2
      go_ret
      exact ⟨rfl, hb0⟩

set_option maxHeartbeats 2000000 in
theorem hbk_great1 (x0 x1 : Int) (x2 x3 : Bool) (x4 x5 x6 x7 x8 : Int) (x10 : ByteArray) (y0 y1 : Int) (y2 y3 : Bool) (y4 y5 y6 y7 y8 : Int) (y10 : ByteArray) (o1 o2 : Option Addr) (c1 c2 : Nat) (l m : List Opt) (w : World) (h1 : OptRow w o1 l) (h2 : OptRow w o2 m) (hl : l.length ≤ maxLen) (hld : ∀ o ∈ l, o.data.size ≤ maxLen) (hm : m.length ≤ maxLen) (hmd : ∀ o ∈ m, o.data.size ≤ maxLen) (hx : x10.size ≤ maxLen) (hy : y10.size ≤ maxLen) (hg : H.great l x10.size = true) :
    Calls Tryd.prog 6 #[pk x0 x1 x2 x3 x4 x5 x6 x7 x8 (.slice o1 l.length c1) x10, pk y0 y1 y2 y3 y4 y5 y6 y7 y8 (.slice o2 m.length c2) y10] w fun e w' => e = .returned (.bool true) ∧ Below w.heap.size w w' := by
  have hp0 : Two w.heap.size (pkO x0 x1 x2 x3 x4 x5 x6 x7 x8 (.slice o1 l.length c1) x10) (pkO y0 y1 y2 y3 y4 y5 y6 y7 y8 (.slice o2 m.length c2) y10) o1 o2 l m ((w.alloc (pkO x0 x1 x2 x3 x4 x5 x6 x7 x8 (.slice o1 l.length c1) x10)).alloc (pkO y0 y1 y2 y3 y4 y5 y6 y7 y8 (.slice o2 m.length c2) y10)) :=
    ⟨(Below.heap_alloc _ _ _ (by simp)).trans (heap_alloc_new w _), by have := heap_alloc_new (w.alloc (pkO x0 x1 x2 x3 x4 x5 x6 x7 x8 (.slice o1 l.length c1) x10)) (pkO y0 y1 y2 y3 y4 y5 y6 y7 y8 (.slice o2 m.length c2) y10); simpa using this, h1.carry (((Below.refl _ w).alloc (Nat.le_refl _) _).alloc (by simp) _), h2.carry (((Below.refl _ w).alloc (Nat.le_refl _) _).alloc (by simp) _)⟩
  have hb0 : Below w.heap.size w ((w.alloc (pkO x0 x1 x2 x3 x4 x5 x6 x7 x8 (.slice o1 l.length c1) x10)).alloc (pkO y0 y1 y2 y3 y4 y5 y6 y7 y8 (.slice o2 m.length c2) y10)) := ((Below.refl _ w).alloc (Nat.le_refl _) _).alloc (by simp) _
  have Hc : Hid (∀ w' : World, Two w.heap.size (pkO x0 x1 x2 x3 x4 x5 x6 x7 x8 (.slice o1 l.length c1) x10) (pkO y0 y1 y2 y3 y4 y5 y6 y7 y8 (.slice o2 m.length c2) y10) o1 o2 l m w' → (w'.cell? ⟨w.heap.size, 0, none⟩ = some (.int .i64 x0) ∧ w'.cell? ⟨w.heap.size, 1, none⟩ = some (.int .i64 x1) ∧ w'.cell? ⟨w.heap.size, 2, none⟩ = some (.bool x2) ∧ w'.cell? ⟨w.heap.size, 3, none⟩ = some (.bool x3) ∧ w'.cell? ⟨w.heap.size, 4, none⟩ = some (.int .i64 x4) ∧ w'.cell? ⟨w.heap.size, 5, none⟩ = some (.int .i64 x5) ∧ w'.cell? ⟨w.heap.size, 6, none⟩ = some (.int .i64 x6) ∧ w'.cell? ⟨w.heap.size, 7, none⟩ = some (.int .u32 x7) ∧ w'.cell? ⟨w.heap.size, 8, none⟩ = some (.int .u32 x8) ∧ w'.cell? ⟨w.heap.size, 9, none⟩ = some ((.slice o1 l.length c1)) ∧ w'.cell? ⟨w.heap.size, 10, none⟩ = some (.string x10)) ∧ (w'.cell? ⟨w.heap.size + 1, 0, none⟩ = some (.int .i64 y0) ∧ w'.cell? ⟨w.heap.size + 1, 1, none⟩ = some (.int .i64 y1) ∧ w'.cell? ⟨w.heap.size + 1, 2, none⟩ = some (.bool y2) ∧ w'.cell? ⟨w.heap.size + 1, 3, none⟩ = some (.bool y3) ∧ w'.cell? ⟨w.heap.size + 1, 4, none⟩ = some (.int .i64 y4) ∧ w'.cell? ⟨w.heap.size + 1, 5, none⟩ = some (.int .i64 y5) ∧ w'.cell? ⟨w.heap.size + 1, 6, none⟩ = some (.int .i64 y6) ∧ w'.cell? ⟨w.heap.size + 1, 7, none⟩ = some (.int .u32 y7) ∧ w'.cell? ⟨w.heap.size + 1, 8, none⟩ = some (.int .u32 y8) ∧ w'.cell? ⟨w.heap.size + 1, 9, none⟩ = some ((.slice o2 m.length c2)) ∧ w'.cell? ⟨w.heap.size + 1, 10, none⟩ = some (.string y10))) :=
    Lib.hid fun w' hw' => by
      have q1 := hw'.one
      have q2 := hw'.two
      simp [World.cell?, q1, q2]
  have HG1 := Lib.hid (fun w' (h' : OptRow w' o1 l) => hgreat_any x0 x1 x2 x3 x4 x5 x6 x7 x8 x10 o1 c1 l w' h' hl hld hx)
  rw [hg] at HG1
  clear h1 h2 hl hm hld hmd hx hy
  go_enter Tryd.func6, Tryd.ntmps6
  go_wp2_with fail
  refine (HG1.out _ hp0.row1).mono ?_
  rintro e w1 ⟨rfl, hb1⟩
  have hp1 := hp0.carry hb1
  have hb1w := hb0.trans (hb1.mono hb0.size)
  obtain ⟨⟨k0, k1, k2, k3, k4, k5, k6, k7, k8, k9, k10⟩, ⟨j0, j1, j2, j3, j4, j5, j6, j7, j8, j9, j10⟩⟩ := Hc.out _ hp1
  clear hp0 hb0 hb1 HG1
  clear k0 j0 k1 j1 k2 j2 k3 j3 k4 j4 k5 j5 k6 j6 k7 j7 k8 j8 k9 j9 k10 j10
  go_wp2_with fail
  refine (awake5_any _).mono ?_
  rintro e wA ⟨rfl, hbA⟩
  have hbAw := hb1w.trans (hbA.mono hb1w.size)
  clear hbA hb1w
  go_wp2
  go_ret
  exact ⟨rfl, hbAw⟩

set_option maxHeartbeats 2000000 in
theorem hbk_great2 (x0 x1 : Int) (x2 x3 : Bool) (x4 x5 x6 x7 x8 : Int) (x10 : ByteArray) (y0 y1 : Int) (y2 y3 : Bool) (y4 y5 y6 y7 y8 : Int) (y10 : ByteArray) (o1 o2 : Option Addr) (c1 c2 : Nat) (l m : List Opt) (w : World) (h1 : OptRow w o1 l) (h2 : OptRow w o2 m) (hl : l.length ≤ maxLen) (hld : ∀ o ∈ l, o.data.size ≤ maxLen) (hm : m.length ≤ maxLen) (hmd : ∀ o ∈ m, o.data.size ≤ maxLen) (hx : x10.size ≤ maxLen) (hy : y10.size ≤ maxLen) (hg : H.great l x10.size = false) (hg2 : H.great m y10.size = true) :
    Calls Tryd.prog 6 #[pk x0 x1 x2 x3 x4 x5 x6 x7 x8 (.slice o1 l.length c1) x10, pk y0 y1 y2 y3 y4 y5 y6 y7 y8 (.slice o2 m.length c2) y10] w fun e w' => e = .returned (.bool true) ∧ Below w.heap.size w w' := by
  have hp0 : Two w.heap.size (pkO x0 x1 x2 x3 x4 x5 x6 x7 x8 (.slice o1 l.length c1) x10) (pkO y0 y1 y2 y3 y4 y5 y6 y7 y8 (.slice o2 m.length c2) y10) o1 o2 l m ((w.alloc (pkO x0 x1 x2 x3 x4 x5 x6 x7 x8 (.slice o1 l.length c1) x10)).alloc (pkO y0 y1 y2 y3 y4 y5 y6 y7 y8 (.slice o2 m.length c2) y10)) :=
    ⟨(Below.heap_alloc _ _ _ (by simp)).trans (heap_alloc_new w _), by have := heap_alloc_new (w.alloc (pkO x0 x1 x2 x3 x4 x5 x6 x7 x8 (.slice o1 l.length c1) x10)) (pkO y0 y1 y2 y3 y4 y5 y6 y7 y8 (.slice o2 m.length c2) y10); simpa using this, h1.carry (((Below.refl _ w).alloc (Nat.le_refl _) _).alloc (by simp) _), h2.carry (((Below.refl _ w).alloc (Nat.le_refl _) _).alloc (by simp) _)⟩
  have hb0 : Below w.heap.size w ((w.alloc (pkO x0 x1 x2 x3 x4 x5 x6 x7 x8 (.slice o1 l.length c1) x10)).alloc (pkO y0 y1 y2 y3 y4 y5 y6 y7 y8 (.slice o2 m.length c2) y10)) := ((Below.refl _ w).alloc (Nat.le_refl _) _).alloc (by simp) _
  have Hc : Hid (∀ w' : World, Two w.heap.size (pkO x0 x1 x2 x3 x4 x5 x6 x7 x8 (.slice o1 l.length c1) x10) (pkO y0 y1 y2 y3 y4 y5 y6 y7 y8 (.slice o2 m.length c2) y10) o1 o2 l m w' → (w'.cell? ⟨w.heap.size, 0, none⟩ = some (.int .i64 x0) ∧ w'.cell? ⟨w.heap.size, 1, none⟩ = some (.int .i64 x1) ∧ w'.cell? ⟨w.heap.size, 2, none⟩ = some (.bool x2) ∧ w'.cell? ⟨w.heap.size, 3, none⟩ = some (.bool x3) ∧ w'.cell? ⟨w.heap.size, 4, none⟩ = some (.int .i64 x4) ∧ w'.cell? ⟨w.heap.size, 5, none⟩ = some (.int .i64 x5) ∧ w'.cell? ⟨w.heap.size, 6, none⟩ = some (.int .i64 x6) ∧ w'.cell? ⟨w.heap.size, 7, none⟩ = some (.int .u32 x7) ∧ w'.cell? ⟨w.heap.size, 8, none⟩ = some (.int .u32 x8) ∧ w'.cell? ⟨w.heap.size, 9, none⟩ = some ((.slice o1 l.length c1)) ∧ w'.cell? ⟨w.heap.size, 10, none⟩ = some (.string x10)) ∧ (w'.cell? ⟨w.heap.size + 1, 0, none⟩ = some (.int .i64 y0) ∧ w'.cell? ⟨w.heap.size + 1, 1, none⟩ = some (.int .i64 y1) ∧ w'.cell? ⟨w.heap.size + 1, 2, none⟩ = some (.bool y2) ∧ w'.cell? ⟨w.heap.size + 1, 3, none⟩ = some (.bool y3) ∧ w'.cell? ⟨w.heap.size + 1, 4, none⟩ = some (.int .i64 y4) ∧ w'.cell? ⟨w.heap.size + 1, 5, none⟩ = some (.int .i64 y5) ∧ w'.cell? ⟨w.heap.size + 1, 6, none⟩ = some (.int .i64 y6) ∧ w'.cell? ⟨w.heap.size + 1, 7, none⟩ = some (.int .u32 y7) ∧ w'.cell? ⟨w.heap.size + 1, 8, none⟩ = some (.int .u32 y8) ∧ w'.cell? ⟨w.heap.size + 1, 9, none⟩ = some ((.slice o2 m.length c2)) ∧ w'.cell? ⟨w.heap.size + 1, 10, none⟩ = some (.string y10))) :=
    Lib.hid fun w' hw' => by
      have q1 := hw'.one
      have q2 := hw'.two
      simp [World.cell?, q1, q2]
  have HG1 := Lib.hid (fun w' (h' : OptRow w' o1 l) => hgreat_any x0 x1 x2 x3 x4 x5 x6 x7 x8 x10 o1 c1 l w' h' hl hld hx)
  rw [hg] at HG1
  have HG2 := Lib.hid (fun w' (h' : OptRow w' o2 m) => hgreat_any y0 y1 y2 y3 y4 y5 y6 y7 y8 y10 o2 c2 m w' h' hm hmd hy)
  rw [hg2] at HG2
  clear h1 h2 hl hm hld hmd hx hy
  go_enter Tryd.func6, Tryd.ntmps6
  go_wp2_with fail
  refine (HG1.out _ hp0.row1).mono ?_
  rintro e w1 ⟨rfl, hb1⟩
  have hp1 := hp0.carry hb1
  have hb1w := hb0.trans (hb1.mono hb0.size)
  obtain ⟨⟨k0, k1, k2, k3, k4, k5, k6, k7, k8, k9, k10⟩, ⟨j0, j1, j2, j3, j4, j5, j6, j7, j8, j9, j10⟩⟩ := Hc.out _ hp1
  clear hp0 hb0 hb1 HG1
  go_wp2_with fail
  refine (HG2.out _ hp1.row2).mono ?_
  rintro e w2 ⟨rfl, hb2⟩
  have hp2 := hp1.carry hb2
  have hb2w := hb1w.trans (hb2.mono hb1w.size)
  clear k0 j0 k1 j1 k2 j2 k3 j3 k4 j4 k5 j5 k6 j6 k7 j7 k8 j8 k9 j9 k10 j10
  obtain ⟨⟨k0, k1, k2, k3, k4, k5, k6, k7, k8, k9, k10⟩, ⟨j0, j1, j2, j3, j4, j5, j6, j7, j8, j9, j10⟩⟩ := Hc.out _ hp2
  clear hp1 hb1w hb2 HG2
  clear k0 j0 k1 j1 k2 j2 k3 j3 k4 j4 k5 j5 k6 j6 k7 j7 k8 j8 k9 j9 k10 j10
  go_wp2_with fail
  refine (awake5_any _).mono ?_
  rintro e wA ⟨rfl, hbA⟩
  have hbAw := hb2w.trans (hbA.mono hb2w.size)
  clear hbA hb2w
  go_wp2
  go_ret
  exact ⟨rfl, hbAw⟩

set_option maxHeartbeats 4000000 in
theorem hbk_no (x0 x1 : Int) (x2 x3 : Bool) (x4 x5 x6 x7 x8 : Int) (x10 : ByteArray) (y0 y1 : Int) (y2 y3 : Bool) (y4 y5 y6 y7 y8 : Int) (y10 : ByteArray) (o1 o2 : Option Addr) (c1 c2 : Nat) (l m : List Opt) (w : World) (h1 : OptRow w o1 l) (h2 : OptRow w o2 m) (hl : l.length ≤ maxLen) (hld : ∀ o ∈ l, o.data.size ≤ maxLen) (hm : m.length ≤ maxLen) (hmd : ∀ o ∈ m, o.data.size ≤ maxLen) (hx : x10.size ≤ maxLen) (hy : y10.size ≤ maxLen) (hg : H.great l x10.size = false) (hg2 : H.great m y10.size = false) (hr : H.right x0 x1 x4 x5 x6 l x10.size = false) :
    Calls Tryd.prog 6 #[pk x0 x1 x2 x3 x4 x5 x6 x7 x8 (.slice o1 l.length c1) x10, pk y0 y1 y2 y3 y4 y5 y6 y7 y8 (.slice o2 m.length c2) y10] w fun e w' => e = .returned (.bool true) ∧ Below w.heap.size w w' := by
  have hp0 : Two w.heap.size (pkO x0 x1 x2 x3 x4 x5 x6 x7 x8 (.slice o1 l.length c1) x10) (pkO y0 y1 y2 y3 y4 y5 y6 y7 y8 (.slice o2 m.length c2) y10) o1 o2 l m ((w.alloc (pkO x0 x1 x2 x3 x4 x5 x6 x7 x8 (.slice o1 l.length c1) x10)).alloc (pkO y0 y1 y2 y3 y4 y5 y6 y7 y8 (.slice o2 m.length c2) y10)) :=
    ⟨(Below.heap_alloc _ _ _ (by simp)).trans (heap_alloc_new w _), by have := heap_alloc_new (w.alloc (pkO x0 x1 x2 x3 x4 x5 x6 x7 x8 (.slice o1 l.length c1) x10)) (pkO y0 y1 y2 y3 y4 y5 y6 y7 y8 (.slice o2 m.length c2) y10); simpa using this, h1.carry (((Below.refl _ w).alloc (Nat.le_refl _) _).alloc (by simp) _), h2.carry (((Below.refl _ w).alloc (Nat.le_refl _) _).alloc (by simp) _)⟩
  have hb0 : Below w.heap.size w ((w.alloc (pkO x0 x1 x2 x3 x4 x5 x6 x7 x8 (.slice o1 l.length c1) x10)).alloc (pkO y0 y1 y2 y3 y4 y5 y6 y7 y8 (.slice o2 m.length c2) y10)) := ((Below.refl _ w).alloc (Nat.le_refl _) _).alloc (by simp) _
  have Hc : Hid (∀ w' : World, Two w.heap.size (pkO x0 x1 x2 x3 x4 x5 x6 x7 x8 (.slice o1 l.length c1) x10) (pkO y0 y1 y2 y3 y4 y5 y6 y7 y8 (.slice o2 m.length c2) y10) o1 o2 l m w' → (w'.cell? ⟨w.heap.size, 0, none⟩ = some (.int .i64 x0) ∧ w'.cell? ⟨w.heap.size, 1, none⟩ = some (.int .i64 x1) ∧ w'.cell? ⟨w.heap.size, 2, none⟩ = some (.bool x2) ∧ w'.cell? ⟨w.heap.size, 3, none⟩ = some (.bool x3) ∧ w'.cell? ⟨w.heap.size, 4, none⟩ = some (.int .i64 x4) ∧ w'.cell? ⟨w.heap.size, 5, none⟩ = some (.int .i64 x5) ∧ w'.cell? ⟨w.heap.size, 6, none⟩ = some (.int .i64 x6) ∧ w'.cell? ⟨w.heap.size, 7, none⟩ = some (.int .u32 x7) ∧ w'.cell? ⟨w.heap.size, 8, none⟩ = some (.int .u32 x8) ∧ w'.cell? ⟨w.heap.size, 9, none⟩ = some ((.slice o1 l.length c1)) ∧ w'.cell? ⟨w.heap.size, 10, none⟩ = some (.string x10)) ∧ (w'.cell? ⟨w.heap.size + 1, 0, none⟩ = some (.int .i64 y0) ∧ w'.cell? ⟨w.heap.size + 1, 1, none⟩ = some (.int .i64 y1) ∧ w'.cell? ⟨w.heap.size + 1, 2, none⟩ = some (.bool y2) ∧ w'.cell? ⟨w.heap.size + 1, 3, none⟩ = some (.bool y3) ∧ w'.cell? ⟨w.heap.size + 1, 4, none⟩ = some (.int .i64 y4) ∧ w'.cell? ⟨w.heap.size + 1, 5, none⟩ = some (.int .i64 y5) ∧ w'.cell? ⟨w.heap.size + 1, 6, none⟩ = some (.int .i64 y6) ∧ w'.cell? ⟨w.heap.size + 1, 7, none⟩ = some (.int .u32 y7) ∧ w'.cell? ⟨w.heap.size + 1, 8, none⟩ = some (.int .u32 y8) ∧ w'.cell? ⟨w.heap.size + 1, 9, none⟩ = some ((.slice o2 m.length c2)) ∧ w'.cell? ⟨w.heap.size + 1, 10, none⟩ = some (.string y10))) :=
    Lib.hid fun w' hw' => by
      have q1 := hw'.one
      have q2 := hw'.two
      simp [World.cell?, q1, q2]
  have HG1 := Lib.hid (fun w' (h' : OptRow w' o1 l) => hgreat_any x0 x1 x2 x3 x4 x5 x6 x7 x8 x10 o1 c1 l w' h' hl hld hx)
  rw [hg] at HG1
  have HG2 := Lib.hid (fun w' (h' : OptRow w' o2 m) => hgreat_any y0 y1 y2 y3 y4 y5 y6 y7 y8 y10 o2 c2 m w' h' hm hmd hy)
  rw [hg2] at HG2
  obtain ⟨V, hV1, hV2⟩ : ∃ V : Bool, (∀ w' : World, Two w.heap.size (pkO x0 x1 x2 x3 x4 x5 x6 x7 x8 (.slice o1 l.length c1) x10) (pkO y0 y1 y2 y3 y4 y5 y6 y7 y8 (.slice o2 m.length c2) y10) o1 o2 l m w' → Calls Tryd.prog 21 #[pk x0 x1 x2 x3 x4 x5 x6 x7 x8 (.slice o1 l.length c1) x10, pk y0 y1 y2 y3 y4 y5 y6 y7 y8 (.slice o2 m.length c2) y10] w' fun e w'' => e = .returned (.bool V) ∧ Below w'.heap.size w' w'') ∧ (∀ w' : World, Two w.heap.size (pkO x0 x1 x2 x3 x4 x5 x6 x7 x8 (.slice o1 l.length c1) x10) (pkO y0 y1 y2 y3 y4 y5 y6 y7 y8 (.slice o2 m.length c2) y10) o1 o2 l m w' → Calls Tryd.prog 19 #[pk x0 x1 x2 x3 x4 x5 x6 x7 x8 (.slice o1 l.length c1) x10, pk y0 y1 y2 y3 y4 y5 y6 y7 y8 (.slice o2 m.length c2) y10] w' fun e w'' => e = .returned (.bool V) ∧ Below w'.heap.size w' w'') := by
    by_cases hF : x0 = y0 ∧ x1 = y1 ∧ x2 = y2 ∧ x3 = y3 ∧ x4 = y4 ∧ x5 = y5 ∧ x6 = y6 ∧ x7 = y7 ∧ x8 = y8 ∧ x10 = y10
    · obtain ⟨rfl, rfl, rfl, rfl, rfl, rfl, rfl, rfl, rfl, rfl⟩ := hF
      exact ⟨sameB l m, fun w' hw' => hsame_yes x0 x1 x2 x3 x4 x5 x6 x7 x8 x10 o1 o2 c1 c2 l m w' hw'.row1 hw'.row2 hl hm, fun w' hw' => same5_yes x0 x1 x2 x3 x4 x5 x6 x7 x8 x10 o1 o2 c1 c2 l m w' hw'.row1 hw'.row2 hl hm⟩
    · exact ⟨false, fun w' hw' => hsame_no x0 x1 x2 x3 x4 x5 x6 x7 x8 x10 y0 y1 y2 y3 y4 y5 y6 y7 y8 y10 o1 o2 c1 c2 l m w' hw'.row1 hw'.row2 hl hm hF, fun w' hw' => ref5_no x0 x1 x2 x3 x4 x5 x6 x7 x8 x10 y0 y1 y2 y3 y4 y5 y6 y7 y8 y10 o1 o2 c1 c2 l m w' hF⟩
  have HS1 := Lib.hid hV1
  have HS2 := Lib.hid hV2
  have HS3 : Hid (∀ w' : World, Two w.heap.size (pkO x0 x1 x2 x3 x4 x5 x6 x7 x8 (.slice o1 l.length c1) x10) (pkO y0 y1 y2 y3 y4 y5 y6 y7 y8 (.slice o2 m.length c2) y10) o1 o2 l m w' → Calls Tryd.prog 21 #[pk x0 x1 x2 x3 x4 x5 x6 x7 x8 (.slice o1 l.length c1) x10, pk x0 x1 x2 x3 x4 x5 x6 x7 x8 (.slice o1 l.length c1) x10] w' fun e w'' => e = .returned (.bool true) ∧ Below w'.heap.size w' w'') := Lib.hid fun w' hw' => by
    have := hsame_yes x0 x1 x2 x3 x4 x5 x6 x7 x8 x10 o1 o1 c1 c1 l l w' hw'.row1 hw'.row1 hl hl
    rw [sameB_refl] at this
    exact this
  clear hV1 hV2
  obtain ⟨g1, g2, g3⟩ := H.great_no _ _ hg
  have HE : Hid (∀ w', OptRow w' o1 l → Calls Tryd.prog 22 #[pk x0 x1 x2 x3 x4 x5 x6 x7 x8 (.slice o1 l.length c1) x10] w' fun e w'' => e = .returned (.tuple #[.string ⟨#[]⟩, .int .i64 1]) ∧ Below w'.heap.size w' w'') := Lib.hid fun w' h' => henc_bad x0 x1 x2 x3 x4 x5 x6 x7 x8 o1 c1 l x10 w' h' g1 g2 (by omega) hr
  clear h1 h2 hl hm hld hmd hx hy
  go_enter Tryd.func6, Tryd.ntmps6
  go_wp2_with fail
  refine (HG1.out _ hp0.row1).mono ?_
  rintro e w1 ⟨rfl, hb1⟩
  have hp1 := hp0.carry hb1
  have hb1w := hb0.trans (hb1.mono hb0.size)
  obtain ⟨⟨k0, k1, k2, k3, k4, k5, k6, k7, k8, k9, k10⟩, ⟨j0, j1, j2, j3, j4, j5, j6, j7, j8, j9, j10⟩⟩ := Hc.out _ hp1
  clear hp0 hb0 hb1 HG1
  go_wp2_with fail
  refine (HG2.out _ hp1.row2).mono ?_
  rintro e w2 ⟨rfl, hb2⟩
  have hp2 := hp1.carry hb2
  have hb2w := hb1w.trans (hb2.mono hb1w.size)
  clear k0 j0 k1 j1 k2 j2 k3 j3 k4 j4 k5 j5 k6 j6 k7 j7 k8 j8 k9 j9 k10 j10
  obtain ⟨⟨k0, k1, k2, k3, k4, k5, k6, k7, k8, k9, k10⟩, ⟨j0, j1, j2, j3, j4, j5, j6, j7, j8, j9, j10⟩⟩ := Hc.out _ hp2
  clear hp1 hb1w hb2 HG2
  go_upto_region 3 with fail
  clear k0 j0 k1 j1 k2 j2 k3 j3 k4 j4 k5 j5 k6 j6 k7 j7 k8 j8 k9 j9 k10 j10
  generalize hN : w.heap.size = N at *
  refine region_walk (Two N (pkO x0 x1 x2 x3 x4 x5 x6 x7 x8 (.slice o1 l.length c1) x10) (pkO y0 y1 y2 y3 y4 y5 y6 y7 y8 (.slice o2 m.length c2) y10) o1 o2 l m) (fun x y => Below x.heap.size x y) (by kernel_rfl) (by kernel_rfl) (by kernel_rfl) (fun x => Below.refl _ x) bel_trans (fun x y hx hr => hx.carry hr) (hp2.carry ((Below.refl _ _).drew)) ?_
  apply Exists.intro
  refine ⟨?_, ?_⟩
  · refine ⟨pk x0 x1 x2 x3 x4 x5 x6 x7 x8 (.slice o1 l.length c1) x10, .inl ⟨by rfl, fun w' hw' => ?_⟩, ?_⟩
    · obtain ⟨⟨k0, k1, k2, k3, k4, k5, k6, k7, k8, k9, k10⟩, ⟨j0, j1, j2, j3, j4, j5, j6, j7, j8, j9, j10⟩⟩ := Hc.out w' hw'
      go_simp
    simp only [Act.put, List.setIfInBounds_toArray, List.set_cons_zero, List.set_cons_succ]
    refine ⟨pk y0 y1 y2 y3 y4 y5 y6 y7 y8 (.slice o2 m.length c2) y10, .inl ⟨by rfl, fun w' hw' => ?_⟩, ?_⟩
    · obtain ⟨⟨k0, k1, k2, k3, k4, k5, k6, k7, k8, k9, k10⟩, ⟨j0, j1, j2, j3, j4, j5, j6, j7, j8, j9, j10⟩⟩ := Hc.out w' hw'
      go_simp
    simp only [Act.put, List.setIfInBounds_toArray, List.set_cons_zero, List.set_cons_succ]
    refine ⟨.bool V, .inl ⟨by rfl, fun w' hw' => ?_⟩, ?_⟩
    · go_simp
      exact HS1.out w' hw'
    simp only [Act.put, List.setIfInBounds_toArray, List.set_cons_zero, List.set_cons_succ]
    refine ⟨pk x0 x1 x2 x3 x4 x5 x6 x7 x8 (.slice o1 l.length c1) x10, .inl ⟨by rfl, fun w' hw' => ?_⟩, ?_⟩
    · obtain ⟨⟨k0, k1, k2, k3, k4, k5, k6, k7, k8, k9, k10⟩, ⟨j0, j1, j2, j3, j4, j5, j6, j7, j8, j9, j10⟩⟩ := Hc.out w' hw'
      go_simp
    simp only [Act.put, List.setIfInBounds_toArray, List.set_cons_zero, List.set_cons_succ]
    refine ⟨pk y0 y1 y2 y3 y4 y5 y6 y7 y8 (.slice o2 m.length c2) y10, .inl ⟨by rfl, fun w' hw' => ?_⟩, ?_⟩
    · obtain ⟨⟨k0, k1, k2, k3, k4, k5, k6, k7, k8, k9, k10⟩, ⟨j0, j1, j2, j3, j4, j5, j6, j7, j8, j9, j10⟩⟩ := Hc.out w' hw'
      go_simp
    simp only [Act.put, List.setIfInBounds_toArray, List.set_cons_zero, List.set_cons_succ]
    refine ⟨.bool V, .inl ⟨by rfl, fun w' hw' => ?_⟩, ?_⟩
    · go_simp
      exact HS2.out w' hw'
    simp only [Act.put, List.setIfInBounds_toArray, List.set_cons_zero, List.set_cons_succ]
    refine ⟨.bool false, .inl ⟨by rfl, fun w' hw' => ?_⟩, ?_⟩
    · go_simp
    simp only [Act.put, List.setIfInBounds_toArray, List.set_cons_zero, List.set_cons_succ]
    refine ⟨.bool false, .inl ⟨by rfl, fun w' hw' => ?_⟩, ?_⟩
    · go_simp
    simp only [Act.put, List.setIfInBounds_toArray, List.set_cons_zero, List.set_cons_succ]
    refine ⟨pk x0 x1 x2 x3 x4 x5 x6 x7 x8 (.slice o1 l.length c1) x10, .inl ⟨by rfl, fun w' hw' => ?_⟩, ?_⟩
    · obtain ⟨⟨k0, k1, k2, k3, k4, k5, k6, k7, k8, k9, k10⟩, ⟨j0, j1, j2, j3, j4, j5, j6, j7, j8, j9, j10⟩⟩ := Hc.out w' hw'
      go_simp
    simp only [Act.put, List.setIfInBounds_toArray, List.set_cons_zero, List.set_cons_succ]
    refine ⟨pk x0 x1 x2 x3 x4 x5 x6 x7 x8 (.slice o1 l.length c1) x10, .inl ⟨by rfl, fun w' hw' => ?_⟩, ?_⟩
    · obtain ⟨⟨k0, k1, k2, k3, k4, k5, k6, k7, k8, k9, k10⟩, ⟨j0, j1, j2, j3, j4, j5, j6, j7, j8, j9, j10⟩⟩ := Hc.out w' hw'
      go_simp
    simp only [Act.put, List.setIfInBounds_toArray, List.set_cons_zero, List.set_cons_succ]
    refine ⟨.bool true, .inl ⟨by rfl, fun w' hw' => ?_⟩, ?_⟩
    · go_simp
      exact HS3.out w' hw'
    simp only [Act.put, List.setIfInBounds_toArray, List.set_cons_zero, List.set_cons_succ]
    refine ⟨.bool false, .inl ⟨by rfl, fun w' hw' => ?_⟩, ?_⟩
    · go_simp
    simp only [Act.put, List.setIfInBounds_toArray, List.set_cons_zero, List.set_cons_succ]
    refine ⟨.bool false, .inl ⟨by rfl, fun w' hw' => ?_⟩, ?_⟩
    · go_simp
    simp only [Act.put, List.setIfInBounds_toArray, List.set_cons_zero, List.set_cons_succ]
    rfl
  intro w3 hp3 hr
  have hb3w : Below N w w3 := hb2w.trans (((Below.refl _ _).drew.trans hr).mono (by have := hb2w.size; rw [hN] at this; simpa using this))
  clear hr hp2 hb2w HS1 HS2 HS3
  obtain ⟨⟨k0, k1, k2, k3, k4, k5, k6, k7, k8, k9, k10⟩, ⟨j0, j1, j2, j3, j4, j5, j6, j7, j8, j9, j10⟩⟩ := Hc.out _ hp3
  go_wp2_with fail
  refine (HE.out _ hp3.row1).mono ?_
  rintro e w4 ⟨rfl, hb4⟩
  have hb4w := hb3w.trans (hb4.mono (by rw [← hN]; exact hb3w.size))
  clear k0 j0 k1 j1 k2 j2 k3 j3 k4 j4 k5 j5 k6 j6 k7 j7 k8 j8 k9 j9 k10 j10
  clear hb4 hb3w hp3 HE Hc
  go_wp2_with fail
  refine (awake5_any _).mono ?_
  rintro e wA ⟨rfl, hbA⟩
  have hbAw := hb4w.trans (hbA.mono (by rw [← hN]; exact hb4w.size))
  clear hbA hb4w
  go_wp2
  go_ret
  exact ⟨rfl, by rw [hN]; exact hbAw⟩

set_option maxHeartbeats 4000000 in
theorem hbk_yes (x0 x1 : Int) (x2 x3 : Bool) (x4 x5 x6 x7 x8 : Int) (x10 : ByteArray) (y0 y1 : Int) (y2 y3 : Bool) (y4 y5 y6 y7 y8 : Int) (y10 : ByteArray) (o1 o2 : Option Addr) (c1 c2 : Nat) (l m : List Opt) (w : World) (h1 : OptRow w o1 l) (h2 : OptRow w o2 m) (hl : l.length ≤ maxLen) (hld : ∀ o ∈ l, o.data.size ≤ maxLen) (hm : m.length ≤ maxLen) (hmd : ∀ o ∈ m, o.data.size ≤ maxLen) (hx : x10.size ≤ maxLen) (hy : y10.size ≤ maxLen) (hg : H.great l x10.size = false) (hg2 : H.great m y10.size = false) (s : ByteArray)
    (HE : Hid (∀ w', OptRow w' o1 l → Calls Tryd.prog 22 #[pk x0 x1 x2 x3 x4 x5 x6 x7 x8 (.slice o1 l.length c1) x10] w' fun e w'' => e = .returned (.tuple #[.string s, .int .i64 0]) ∧ Below w'.heap.size w' w''))
    (HP : Hid (∀ w', Calls Tryd.prog 17 #[.string s] w' fun e w'' => ∃ ao cp, e = .returned (.tuple #[pk x0 x1 x2 x3 x4 x5 x6 x7 x8 (.slice ao l.length cp) x10, .int .i64 0]) ∧ OptRow w'' ao l ∧ Below w'.heap.size w' w'')) :
    Calls Tryd.prog 6 #[pk x0 x1 x2 x3 x4 x5 x6 x7 x8 (.slice o1 l.length c1) x10, pk y0 y1 y2 y3 y4 y5 y6 y7 y8 (.slice o2 m.length c2) y10] w fun e w' => e = .returned (.bool true) ∧ Below w.heap.size w w' := by
  have hp0 : Two w.heap.size (pkO x0 x1 x2 x3 x4 x5 x6 x7 x8 (.slice o1 l.length c1) x10) (pkO y0 y1 y2 y3 y4 y5 y6 y7 y8 (.slice o2 m.length c2) y10) o1 o2 l m ((w.alloc (pkO x0 x1 x2 x3 x4 x5 x6 x7 x8 (.slice o1 l.length c1) x10)).alloc (pkO y0 y1 y2 y3 y4 y5 y6 y7 y8 (.slice o2 m.length c2) y10)) :=
    ⟨(Below.heap_alloc _ _ _ (by simp)).trans (heap_alloc_new w _), by have := heap_alloc_new (w.alloc (pkO x0 x1 x2 x3 x4 x5 x6 x7 x8 (.slice o1 l.length c1) x10)) (pkO y0 y1 y2 y3 y4 y5 y6 y7 y8 (.slice o2 m.length c2) y10); simpa using this, h1.carry (((Below.refl _ w).alloc (Nat.le_refl _) _).alloc (by simp) _), h2.carry (((Below.refl _ w).alloc (Nat.le_refl _) _).alloc (by simp) _)⟩
  have hb0 : Below w.heap.size w ((w.alloc (pkO x0 x1 x2 x3 x4 x5 x6 x7 x8 (.slice o1 l.length c1) x10)).alloc (pkO y0 y1 y2 y3 y4 y5 y6 y7 y8 (.slice o2 m.length c2) y10)) := ((Below.refl _ w).alloc (Nat.le_refl _) _).alloc (by simp) _
  have Hc : Hid (∀ w' : World, Two w.heap.size (pkO x0 x1 x2 x3 x4 x5 x6 x7 x8 (.slice o1 l.length c1) x10) (pkO y0 y1 y2 y3 y4 y5 y6 y7 y8 (.slice o2 m.length c2) y10) o1 o2 l m w' → (w'.cell? ⟨w.heap.size, 0, none⟩ = some (.int .i64 x0) ∧ w'.cell? ⟨w.heap.size, 1, none⟩ = some (.int .i64 x1) ∧ w'.cell? ⟨w.heap.size, 2, none⟩ = some (.bool x2) ∧ w'.cell? ⟨w.heap.size, 3, none⟩ = some (.bool x3) ∧ w'.cell? ⟨w.heap.size, 4, none⟩ = some (.int .i64 x4) ∧ w'.cell? ⟨w.heap.size, 5, none⟩ = some (.int .i64 x5) ∧ w'.cell? ⟨w.heap.size, 6, none⟩ = some (.int .i64 x6) ∧ w'.cell? ⟨w.heap.size, 7, none⟩ = some (.int .u32 x7) ∧ w'.cell? ⟨w.heap.size, 8, none⟩ = some (.int .u32 x8) ∧ w'.cell? ⟨w.heap.size, 9, none⟩ = some ((.slice o1 l.length c1)) ∧ w'.cell? ⟨w.heap.size, 10, none⟩ = some (.string x10)) ∧ (w'.cell? ⟨w.heap.size + 1, 0, none⟩ = some (.int .i64 y0) ∧ w'.cell? ⟨w.heap.size + 1, 1, none⟩ = some (.int .i64 y1) ∧ w'.cell? ⟨w.heap.size + 1, 2, none⟩ = some (.bool y2) ∧ w'.cell? ⟨w.heap.size + 1, 3, none⟩ = some (.bool y3) ∧ w'.cell? ⟨w.heap.size + 1, 4, none⟩ = some (.int .i64 y4) ∧ w'.cell? ⟨w.heap.size + 1, 5, none⟩ = some (.int .i64 y5) ∧ w'.cell? ⟨w.heap.size + 1, 6, none⟩ = some (.int .i64 y6) ∧ w'.cell? ⟨w.heap.size + 1, 7, none⟩ = some (.int .u32 y7) ∧ w'.cell? ⟨w.heap.size + 1, 8, none⟩ = some (.int .u32 y8) ∧ w'.cell? ⟨w.heap.size + 1, 9, none⟩ = some ((.slice o2 m.length c2)) ∧ w'.cell? ⟨w.heap.size + 1, 10, none⟩ = some (.string y10))) :=
    Lib.hid fun w' hw' => by
      have q1 := hw'.one
      have q2 := hw'.two
      simp [World.cell?, q1, q2]
  have HG1 := Lib.hid (fun w' (h' : OptRow w' o1 l) => hgreat_any x0 x1 x2 x3 x4 x5 x6 x7 x8 x10 o1 c1 l w' h' hl hld hx)
  rw [hg] at HG1
  have HG2 := Lib.hid (fun w' (h' : OptRow w' o2 m) => hgreat_any y0 y1 y2 y3 y4 y5 y6 y7 y8 y10 o2 c2 m w' h' hm hmd hy)
  rw [hg2] at HG2
  obtain ⟨V, hV1, hV2⟩ : ∃ V : Bool, (∀ w' : World, Two w.heap.size (pkO x0 x1 x2 x3 x4 x5 x6 x7 x8 (.slice o1 l.length c1) x10) (pkO y0 y1 y2 y3 y4 y5 y6 y7 y8 (.slice o2 m.length c2) y10) o1 o2 l m w' → Calls Tryd.prog 21 #[pk x0 x1 x2 x3 x4 x5 x6 x7 x8 (.slice o1 l.length c1) x10, pk y0 y1 y2 y3 y4 y5 y6 y7 y8 (.slice o2 m.length c2) y10] w' fun e w'' => e = .returned (.bool V) ∧ Below w'.heap.size w' w'') ∧ (∀ w' : World, Two w.heap.size (pkO x0 x1 x2 x3 x4 x5 x6 x7 x8 (.slice o1 l.length c1) x10) (pkO y0 y1 y2 y3 y4 y5 y6 y7 y8 (.slice o2 m.length c2) y10) o1 o2 l m w' → Calls Tryd.prog 19 #[pk x0 x1 x2 x3 x4 x5 x6 x7 x8 (.slice o1 l.length c1) x10, pk y0 y1 y2 y3 y4 y5 y6 y7 y8 (.slice o2 m.length c2) y10] w' fun e w'' => e = .returned (.bool V) ∧ Below w'.heap.size w' w'') := by
    by_cases hF : x0 = y0 ∧ x1 = y1 ∧ x2 = y2 ∧ x3 = y3 ∧ x4 = y4 ∧ x5 = y5 ∧ x6 = y6 ∧ x7 = y7 ∧ x8 = y8 ∧ x10 = y10
    · obtain ⟨rfl, rfl, rfl, rfl, rfl, rfl, rfl, rfl, rfl, rfl⟩ := hF
      exact ⟨sameB l m, fun w' hw' => hsame_yes x0 x1 x2 x3 x4 x5 x6 x7 x8 x10 o1 o2 c1 c2 l m w' hw'.row1 hw'.row2 hl hm, fun w' hw' => same5_yes x0 x1 x2 x3 x4 x5 x6 x7 x8 x10 o1 o2 c1 c2 l m w' hw'.row1 hw'.row2 hl hm⟩
    · exact ⟨false, fun w' hw' => hsame_no x0 x1 x2 x3 x4 x5 x6 x7 x8 x10 y0 y1 y2 y3 y4 y5 y6 y7 y8 y10 o1 o2 c1 c2 l m w' hw'.row1 hw'.row2 hl hm hF, fun w' hw' => ref5_no x0 x1 x2 x3 x4 x5 x6 x7 x8 x10 y0 y1 y2 y3 y4 y5 y6 y7 y8 y10 o1 o2 c1 c2 l m w' hF⟩
  have HS1 := Lib.hid hV1
  have HS2 := Lib.hid hV2
  have HS3 : Hid (∀ w' : World, Two w.heap.size (pkO x0 x1 x2 x3 x4 x5 x6 x7 x8 (.slice o1 l.length c1) x10) (pkO y0 y1 y2 y3 y4 y5 y6 y7 y8 (.slice o2 m.length c2) y10) o1 o2 l m w' → Calls Tryd.prog 21 #[pk x0 x1 x2 x3 x4 x5 x6 x7 x8 (.slice o1 l.length c1) x10, pk x0 x1 x2 x3 x4 x5 x6 x7 x8 (.slice o1 l.length c1) x10] w' fun e w'' => e = .returned (.bool true) ∧ Below w'.heap.size w' w'') := Lib.hid fun w' hw' => by
    have := hsame_yes x0 x1 x2 x3 x4 x5 x6 x7 x8 x10 o1 o1 c1 c1 l l w' hw'.row1 hw'.row1 hl hl
    rw [sameB_refl] at this
    exact this
  clear hV1 hV2
  have HQ : Hid (∀ o2 c2 w', OptRow w' o2 l → OptRow w' o1 l → Calls Tryd.prog 19 #[pk x0 x1 x2 x3 x4 x5 x6 x7 x8 (.slice o2 l.length c2) x10, pk x0 x1 x2 x3 x4 x5 x6 x7 x8 (.slice o1 l.length c1) x10] w' fun e w'' => e = .returned (.bool true) ∧ Below w'.heap.size w' w'') := Lib.hid fun o2 c2 w' h1 h2 => by
    have := same5_yes x0 x1 x2 x3 x4 x5 x6 x7 x8 x10 o2 o1 c2 c1 l l w' h1 h2 hl hl
    rw [sameB_refl] at this
    exact this
  clear h1 h2 hl hm hld hmd hx hy
  go_enter Tryd.func6, Tryd.ntmps6
  go_wp2_with fail
  refine (HG1.out _ hp0.row1).mono ?_
  rintro e w1 ⟨rfl, hb1⟩
  have hp1 := hp0.carry hb1
  have hb1w := hb0.trans (hb1.mono hb0.size)
  obtain ⟨⟨k0, k1, k2, k3, k4, k5, k6, k7, k8, k9, k10⟩, ⟨j0, j1, j2, j3, j4, j5, j6, j7, j8, j9, j10⟩⟩ := Hc.out _ hp1
  clear hp0 hb0 hb1 HG1
  go_wp2_with fail
  refine (HG2.out _ hp1.row2).mono ?_
  rintro e w2 ⟨rfl, hb2⟩
  have hp2 := hp1.carry hb2
  have hb2w := hb1w.trans (hb2.mono hb1w.size)
  clear k0 j0 k1 j1 k2 j2 k3 j3 k4 j4 k5 j5 k6 j6 k7 j7 k8 j8 k9 j9 k10 j10
  obtain ⟨⟨k0, k1, k2, k3, k4, k5, k6, k7, k8, k9, k10⟩, ⟨j0, j1, j2, j3, j4, j5, j6, j7, j8, j9, j10⟩⟩ := Hc.out _ hp2
  clear hp1 hb1w hb2 HG2
  go_upto_region 3 with fail
  clear k0 j0 k1 j1 k2 j2 k3 j3 k4 j4 k5 j5 k6 j6 k7 j7 k8 j8 k9 j9 k10 j10
  generalize hN : w.heap.size = N at *
  refine region_walk (Two N (pkO x0 x1 x2 x3 x4 x5 x6 x7 x8 (.slice o1 l.length c1) x10) (pkO y0 y1 y2 y3 y4 y5 y6 y7 y8 (.slice o2 m.length c2) y10) o1 o2 l m) (fun x y => Below x.heap.size x y) (by kernel_rfl) (by kernel_rfl) (by kernel_rfl) (fun x => Below.refl _ x) bel_trans (fun x y hx hr => hx.carry hr) (hp2.carry ((Below.refl _ _).drew)) ?_
  apply Exists.intro
  refine ⟨?_, ?_⟩
  · refine ⟨pk x0 x1 x2 x3 x4 x5 x6 x7 x8 (.slice o1 l.length c1) x10, .inl ⟨by rfl, fun w' hw' => ?_⟩, ?_⟩
    · obtain ⟨⟨k0, k1, k2, k3, k4, k5, k6, k7, k8, k9, k10⟩, ⟨j0, j1, j2, j3, j4, j5, j6, j7, j8, j9, j10⟩⟩ := Hc.out w' hw'
      go_simp
    simp only [Act.put, List.setIfInBounds_toArray, List.set_cons_zero, List.set_cons_succ]
    refine ⟨pk y0 y1 y2 y3 y4 y5 y6 y7 y8 (.slice o2 m.length c2) y10, .inl ⟨by rfl, fun w' hw' => ?_⟩, ?_⟩
    · obtain ⟨⟨k0, k1, k2, k3, k4, k5, k6, k7, k8, k9, k10⟩, ⟨j0, j1, j2, j3, j4, j5, j6, j7, j8, j9, j10⟩⟩ := Hc.out w' hw'
      go_simp
    simp only [Act.put, List.setIfInBounds_toArray, List.set_cons_zero, List.set_cons_succ]
    refine ⟨.bool V, .inl ⟨by rfl, fun w' hw' => ?_⟩, ?_⟩
    · go_simp
      exact HS1.out w' hw'
    simp only [Act.put, List.setIfInBounds_toArray, List.set_cons_zero, List.set_cons_succ]
    refine ⟨pk x0 x1 x2 x3 x4 x5 x6 x7 x8 (.slice o1 l.length c1) x10, .inl ⟨by rfl, fun w' hw' => ?_⟩, ?_⟩
    · obtain ⟨⟨k0, k1, k2, k3, k4, k5, k6, k7, k8, k9, k10⟩, ⟨j0, j1, j2, j3, j4, j5, j6, j7, j8, j9, j10⟩⟩ := Hc.out w' hw'
      go_simp
    simp only [Act.put, List.setIfInBounds_toArray, List.set_cons_zero, List.set_cons_succ]
    refine ⟨pk y0 y1 y2 y3 y4 y5 y6 y7 y8 (.slice o2 m.length c2) y10, .inl ⟨by rfl, fun w' hw' => ?_⟩, ?_⟩
    · obtain ⟨⟨k0, k1, k2, k3, k4, k5, k6, k7, k8, k9, k10⟩, ⟨j0, j1, j2, j3, j4, j5, j6, j7, j8, j9, j10⟩⟩ := Hc.out w' hw'
      go_simp
    simp only [Act.put, List.setIfInBounds_toArray, List.set_cons_zero, List.set_cons_succ]
    refine ⟨.bool V, .inl ⟨by rfl, fun w' hw' => ?_⟩, ?_⟩
    · go_simp
      exact HS2.out w' hw'
    simp only [Act.put, List.setIfInBounds_toArray, List.set_cons_zero, List.set_cons_succ]
    refine ⟨.bool false, .inl ⟨by rfl, fun w' hw' => ?_⟩, ?_⟩
    · go_simp
    simp only [Act.put, List.setIfInBounds_toArray, List.set_cons_zero, List.set_cons_succ]
    refine ⟨.bool false, .inl ⟨by rfl, fun w' hw' => ?_⟩, ?_⟩
    · go_simp
    simp only [Act.put, List.setIfInBounds_toArray, List.set_cons_zero, List.set_cons_succ]
    refine ⟨pk x0 x1 x2 x3 x4 x5 x6 x7 x8 (.slice o1 l.length c1) x10, .inl ⟨by rfl, fun w' hw' => ?_⟩, ?_⟩
    · obtain ⟨⟨k0, k1, k2, k3, k4, k5, k6, k7, k8, k9, k10⟩, ⟨j0, j1, j2, j3, j4, j5, j6, j7, j8, j9, j10⟩⟩ := Hc.out w' hw'
      go_simp
    simp only [Act.put, List.setIfInBounds_toArray, List.set_cons_zero, List.set_cons_succ]
    refine ⟨pk x0 x1 x2 x3 x4 x5 x6 x7 x8 (.slice o1 l.length c1) x10, .inl ⟨by rfl, fun w' hw' => ?_⟩, ?_⟩
    · obtain ⟨⟨k0, k1, k2, k3, k4, k5, k6, k7, k8, k9, k10⟩, ⟨j0, j1, j2, j3, j4, j5, j6, j7, j8, j9, j10⟩⟩ := Hc.out w' hw'
      go_simp
    simp only [Act.put, List.setIfInBounds_toArray, List.set_cons_zero, List.set_cons_succ]
    refine ⟨.bool true, .inl ⟨by rfl, fun w' hw' => ?_⟩, ?_⟩
    · go_simp
      exact HS3.out w' hw'
    simp only [Act.put, List.setIfInBounds_toArray, List.set_cons_zero, List.set_cons_succ]
    refine ⟨.bool false, .inl ⟨by rfl, fun w' hw' => ?_⟩, ?_⟩
    · go_simp
    simp only [Act.put, List.setIfInBounds_toArray, List.set_cons_zero, List.set_cons_succ]
    refine ⟨.bool false, .inl ⟨by rfl, fun w' hw' => ?_⟩, ?_⟩
    · go_simp
    simp only [Act.put, List.setIfInBounds_toArray, List.set_cons_zero, List.set_cons_succ]
    rfl
  intro w3 hp3 hr
  have hb3w : Below N w w3 := hb2w.trans (((Below.refl _ _).drew.trans hr).mono (by have := hb2w.size; rw [hN] at this; simpa using this))
  clear hr hp2 hb2w HS1 HS2 HS3
  obtain ⟨⟨k0, k1, k2, k3, k4, k5, k6, k7, k8, k9, k10⟩, ⟨j0, j1, j2, j3, j4, j5, j6, j7, j8, j9, j10⟩⟩ := Hc.out _ hp3
  go_wp2_with fail
  refine (HE.out _ hp3.row1).mono ?_
  rintro e w4 ⟨rfl, hb4⟩
  have hp4 := hp3.carry hb4
  have hb4w := hb3w.trans (hb4.mono (by rw [← hN]; exact hb3w.size))
  clear k0 j0 k1 j1 k2 j2 k3 j3 k4 j4 k5 j5 k6 j6 k7 j7 k8 j8 k9 j9 k10 j10
  clear hb4 hb3w hp3 HE
  go_wp2_with fail
  refine (HP.out _).mono ?_
  rintro e w5 ⟨ao, cp, rfl, hrow, hb5⟩
  have hp5 := (hp4.carry hb5).carry ((Below.refl _ w5).alloc (Nat.le_refl _) (pkO x0 x1 x2 x3 x4 x5 x6 x7 x8 (.slice ao l.length cp) x10))
  have hrow' := hrow.carry ((Below.refl _ w5).alloc (Nat.le_refl _) (pkO x0 x1 x2 x3 x4 x5 x6 x7 x8 (.slice ao l.length cp) x10))
  have hb5w := (hb4w.trans (hb5.mono (by rw [← hN]; exact hb4w.size))).alloc (by have h1 := hb4w.size; have h2 := hb5.size; omega) (pkO x0 x1 x2 x3 x4 x5 x6 x7 x8 (.slice ao l.length cp) x10)
  obtain ⟨⟨k0, k1, k2, k3, k4, k5, k6, k7, k8, k9, k10⟩, ⟨j0, j1, j2, j3, j4, j5, j6, j7, j8, j9, j10⟩⟩ := Hc.out _ (hp4.carry hb5)
  have hlt5 := lt_of_block (hp4.carry hb5).one
  clear hb5 hb4w hp4 HP hrow
  go_wp2_with fail
  refine (HQ.out ao cp _ hrow' hp5.row1).mono ?_
  rintro e w6 ⟨rfl, hb6⟩
  have hb6w := hb5w.trans (hb6.mono (by rw [← hN]; exact hb5w.size))
  clear hb6 hb5w hp5 HQ hrow'
  go_wp2_with fail
  refine (awake5_any _).mono ?_
  rintro e wA ⟨rfl, hbA⟩
  have hbAw := hb6w.trans (hbA.mono (by rw [← hN]; exact hb6w.size))
  clear hbA hb6w
  go_wp2
  go_ret
  exact ⟨rfl, by rw [hN]; exact hbAw⟩

theorem hbk_all (x0 x1 : Int) (x2 x3 : Bool) (x4 x5 x6 x7 x8 : Int) (x10 : ByteArray) (y0 y1 : Int) (y2 y3 : Bool) (y4 y5 y6 y7 y8 : Int) (y10 : ByteArray) (o1 o2 : Option Addr) (c1 c2 : Nat) (l m : List Opt) (w : World) (h1 : OptRow w o1 l) (h2 : OptRow w o2 m) (hl : l.length ≤ maxLen) (hld : ∀ o ∈ l, o.data.size ≤ maxLen) (hm : m.length ≤ maxLen) (hmd : ∀ o ∈ m, o.data.size ≤ maxLen) (hx : x10.size ≤ maxLen) (hy : y10.size ≤ maxLen) (hs : 0 ≤ x7 ∧ x7 < 4294967296) (ht : 0 ≤ x8 ∧ x8 < 4294967296) :
    Calls Tryd.prog 6 #[pk x0 x1 x2 x3 x4 x5 x6 x7 x8 (.slice o1 l.length c1) x10, pk y0 y1 y2 y3 y4 y5 y6 y7 y8 (.slice o2 m.length c2) y10] w fun e w' => e = .returned (.bool true) ∧ Below w.heap.size w w' := by
  cases hg : H.great l x10.size with
  | true => exact hbk_great1 x0 x1 x2 x3 x4 x5 x6 x7 x8 x10 y0 y1 y2 y3 y4 y5 y6 y7 y8 y10 o1 o2 c1 c2 l m w h1 h2 hl hld hm hmd hx hy hg
  | false =>
    cases hg2 : H.great m y10.size with
    | true => exact hbk_great2 x0 x1 x2 x3 x4 x5 x6 x7 x8 x10 y0 y1 y2 y3 y4 y5 y6 y7 y8 y10 o1 o2 c1 c2 l m w h1 h2 hl hld hm hmd hx hy hg hg2
    | false =>
      cases hr : H.right x0 x1 x4 x5 x6 l x10.size with
      | false => exact hbk_no x0 x1 x2 x3 x4 x5 x6 x7 x8 x10 y0 y1 y2 y3 y4 y5 y6 y7 y8 y10 o1 o2 c1 c2 l m w h1 h2 hl hld hm hmd hx hy hg hg2 hr
      | true =>
        obtain ⟨p0, p1, p4, p5, p6⟩ := H.right_int _ _ _ _ _ _ _ hr
        obtain ⟨n0, rfl⟩ := Int.eq_ofNat_of_zero_le p0
        obtain ⟨n1, rfl⟩ := Int.eq_ofNat_of_zero_le p1
        obtain ⟨n4, rfl⟩ := Int.eq_ofNat_of_zero_le p4
        obtain ⟨n5, rfl⟩ := Int.eq_ofNat_of_zero_le p5
        obtain ⟨n6, rfl⟩ := Int.eq_ofNat_of_zero_le p6
        obtain ⟨n7, rfl⟩ := Int.eq_ofNat_of_zero_le hs.1
        obtain ⟨n8, rfl⟩ := Int.eq_ofNat_of_zero_le ht.1
        obtain ⟨g1, g2, g3⟩ := H.great_no _ _ hg
        have hn := H.right_nat n0 n1 n4 n5 n6 l x10.size (by omega) hr
        obtain ⟨e1, e2, _⟩ := H.enc_ok n0 n1 x2 x3 n4 n5 n6 n7 n8 l x10 hn (by omega) (by omega)
        refine hbk_yes _ _ _ _ _ _ _ _ _ _ y0 y1 y2 y3 y4 y5 y6 y7 y8 y10 o1 o2 c1 c2 l m w h1 h2 hl hld hm hmd hx hy hg hg2 (H.enc n0 n1 x2 x3 n4 n5 n6 n7 n8 l x10)
          (Lib.hid fun w' h' => henc_ok n0 n1 x2 x3 n4 n5 n6 n7 n8 o1 c1 l x10 w' h' g1 g2 (by omega) (by omega) (by omega) hr) (Lib.hid fun w' => ?_)
        have hpz := hparse (H.enc n0 n1 x2 x3 n4 n5 n6 n7 n8 l x10).data.toList w' (by rw [e1.size.symm]; have := H.sh_lt (H.enc n0 n1 x2 x3 n4 n5 n6 n7 n8 l x10).data.toList 2; omega)
        rw [e1.parse, e2, ← ba_of] at hpz
        exact hpz
#print axioms hbk_all
end Go.Proofs.YtncnildpbccpaaaDoor

namespace Go.Proofs.YtncnildpbccpaaaDoor
open Go.RowKit Go.ChangeShapes Go.WideShapes Go.ChangeAt Go.Deep
set_option linter.unusedVariables false

theorem Tryd.cellsPk : Tryd.prog.cellsOf 36 = 11 := by kernel_rfl
theorem Tryd.cellsB : Tryd.prog.cellsOf 4 = 1 := by kernel_rfl
theorem Tryd.cellsU : Tryd.prog.cellsOf 34 = 1 := by kernel_rfl
theorem Tryd.cellsL : Tryd.prog.cellsOf 23 = 1 := by kernel_rfl

theorem u32_range {n : Int} (h : (Lit.int .u32 n).wf = true) : 0 ≤ n ∧ n < 4294967296 := by
  have := bounds_u32 h
  omega

theorem slice_cell {H : Type} {enc : TypeId × Value → H} {W : World} {base : Nat} {spare : Nat → Bool} {held : Bool} {fuel : Nat} {c : Value} {x : DataW H × List MemPlace}
    (h : DataW.trod enc Tryd.prog W base spare held fuel 23 [c] = some x) : ∃ (a : Option Addr) (cap : Nat) (l : List Opt), c = .slice a l.length cap ∧ l.length ≤ maxLen ∧ (∀ o ∈ l, o.data.size ≤ maxLen) ∧ OptRow W a l := by
  have hc : ∃ a len cap, c = .slice a len cap := by
    rcases open_slice Tryd.underlying23 h with ⟨hcs, _⟩ | ⟨x, l, c', m, n, D, Pl, hcs, _⟩
    · exact ⟨_, _, _, by simpa using hcs⟩
    · exact ⟨_, _, _, by simpa using hcs⟩
  obtain ⟨a, len, cap, rfl⟩ := hc
  obtain ⟨l, rfl, h1, h2, h3⟩ := opts_of (a := a) (len := len) (cap := cap) (d := x.1) (p := x.2) ⟨fuel, h⟩
  exact ⟨a, cap, l, rfl, h1, h2, h3⟩

theorem pkt_of {H : Type} {enc : TypeId × Value → H} {W : World} {base b0 : Nat} {spare : Nat → Bool} {held : Bool} {r : Reach} {v : Value} {d : DataW H} {p : List MemPlace}
    (hv : Value.okWide Tryd.prog W r b0 36 v) (h : DataW.Trod enc Tryd.prog W base spare held 36 v d p) :
    ∃ (x0 x1 : Int) (x2 x3 : Bool) (x4 x5 x6 x7 x8 : Int) (o : Option Addr) (c : Nat) (l : List Opt) (x10 : ByteArray), v = pk x0 x1 x2 x3 x4 x5 x6 x7 x8 (.slice o l.length c) x10 ∧ OptRow W o l ∧ l.length ≤ maxLen ∧ (∀ o ∈ l, o.data.size ≤ maxLen) ∧ x10.size ≤ maxLen ∧ (0 ≤ x7 ∧ x7 < 4294967296) ∧ (0 ≤ x8 ∧ x8 < 4294967296) := by
  obtain ⟨cs, rfl, hsz⟩ := okWide_struct Tryd.underlying36 hv
  rw [Tryd.cellsPk] at hsz
  obtain ⟨fuel, hf0⟩ := h
  obtain ⟨xs, n', _, _, hlen, hxl, hf⟩ := DataW.trod_struct Tryd.underlying36 hf0
  clear hlen
  have hcl : cs.toList.length = 11 := by rw [Array.length_toList]; exact hsz
  obtain ⟨cl, rfl⟩ : ∃ cl : List Value, cs = cl.toArray := ⟨cs.toList, by simp⟩
  match cl, hcl with
  | [c0, c1, c2, c3, c4, c5, c6, c7, c8, c9, c10], _ =>
    match xs, hxl with
    | [y0, y1, y2, y3, y4, y5, y6, y7, y8, y9, y10], _ =>
      have h0 : DataW.trod enc Tryd.prog W base spare held n' 3 (([c0, c1, c2, c3, c4, c5, c6, c7, c8, c9, c10].drop 0).take (Tryd.prog.cellsOf 3)) = some y0 := hf 0 _ rfl
      rw [Tryd.cellsI] at h0
      obtain ⟨x0, e0, _, w0⟩ := DataW.trod_int Tryd.underlying3 h0
      have e0' : c0 = .int .i64 x0 := by simpa using e0
      have h1 : DataW.trod enc Tryd.prog W base spare held n' 3 (([c0, c1, c2, c3, c4, c5, c6, c7, c8, c9, c10].drop 1).take (Tryd.prog.cellsOf 3)) = some y1 := hf 1 _ rfl
      rw [Tryd.cellsI] at h1
      obtain ⟨x1, e1, _, w1⟩ := DataW.trod_int Tryd.underlying3 h1
      have e1' : c1 = .int .i64 x1 := by simpa using e1
      have h2 : DataW.trod enc Tryd.prog W base spare held n' 4 (([c0, c1, c2, c3, c4, c5, c6, c7, c8, c9, c10].drop 2).take (Tryd.prog.cellsOf 4)) = some y2 := hf 2 _ rfl
      rw [Tryd.cellsB] at h2
      obtain ⟨x2, e2, _⟩ := DataW.trod_bool Tryd.underlying4 h2
      have e2' : c2 = .bool x2 := by simpa using e2
      have h3 : DataW.trod enc Tryd.prog W base spare held n' 4 (([c0, c1, c2, c3, c4, c5, c6, c7, c8, c9, c10].drop 3).take (Tryd.prog.cellsOf 4)) = some y3 := hf 3 _ rfl
      rw [Tryd.cellsB] at h3
      obtain ⟨x3, e3, _⟩ := DataW.trod_bool Tryd.underlying4 h3
      have e3' : c3 = .bool x3 := by simpa using e3
      have h4 : DataW.trod enc Tryd.prog W base spare held n' 3 (([c0, c1, c2, c3, c4, c5, c6, c7, c8, c9, c10].drop 4).take (Tryd.prog.cellsOf 3)) = some y4 := hf 4 _ rfl
      rw [Tryd.cellsI] at h4
      obtain ⟨x4, e4, _, w4⟩ := DataW.trod_int Tryd.underlying3 h4
      have e4' : c4 = .int .i64 x4 := by simpa using e4
      have h5 : DataW.trod enc Tryd.prog W base spare held n' 3 (([c0, c1, c2, c3, c4, c5, c6, c7, c8, c9, c10].drop 5).take (Tryd.prog.cellsOf 3)) = some y5 := hf 5 _ rfl
      rw [Tryd.cellsI] at h5
      obtain ⟨x5, e5, _, w5⟩ := DataW.trod_int Tryd.underlying3 h5
      have e5' : c5 = .int .i64 x5 := by simpa using e5
      have h6 : DataW.trod enc Tryd.prog W base spare held n' 3 (([c0, c1, c2, c3, c4, c5, c6, c7, c8, c9, c10].drop 6).take (Tryd.prog.cellsOf 3)) = some y6 := hf 6 _ rfl
      rw [Tryd.cellsI] at h6
      obtain ⟨x6, e6, _, w6⟩ := DataW.trod_int Tryd.underlying3 h6
      have e6' : c6 = .int .i64 x6 := by simpa using e6
      have h7 : DataW.trod enc Tryd.prog W base spare held n' 34 (([c0, c1, c2, c3, c4, c5, c6, c7, c8, c9, c10].drop 7).take (Tryd.prog.cellsOf 34)) = some y7 := hf 7 _ rfl
      rw [Tryd.cellsU] at h7
      obtain ⟨x7, e7, _, w7⟩ := DataW.trod_int Tryd.underlying34 h7
      have e7' : c7 = .int .u32 x7 := by simpa using e7
      have h8 : DataW.trod enc Tryd.prog W base spare held n' 34 (([c0, c1, c2, c3, c4, c5, c6, c7, c8, c9, c10].drop 8).take (Tryd.prog.cellsOf 34)) = some y8 := hf 8 _ rfl
      rw [Tryd.cellsU] at h8
      obtain ⟨x8, e8, _, w8⟩ := DataW.trod_int Tryd.underlying34 h8
      have e8' : c8 = .int .u32 x8 := by simpa using e8
      have h9 : DataW.trod enc Tryd.prog W base spare held n' 23 (([c0, c1, c2, c3, c4, c5, c6, c7, c8, c9, c10].drop 9).take (Tryd.prog.cellsOf 23)) = some y9 := hf 9 _ rfl
      rw [Tryd.cellsL] at h9
      obtain ⟨a, cap, l, e9', l1, l2, l3⟩ := slice_cell (show DataW.trod enc Tryd.prog W base spare held n' 23 [c9] = some y9 from h9)
      have h10 : DataW.trod enc Tryd.prog W base spare held n' 9 (([c0, c1, c2, c3, c4, c5, c6, c7, c8, c9, c10].drop 10).take (Tryd.prog.cellsOf 9)) = some y10 := hf 10 _ rfl
      rw [Tryd.cellsS] at h10
      obtain ⟨x10, e10, _, w10⟩ := DataW.trod_string Tryd.underlying9 h10
      have e10' : c10 = .string x10 := by simpa using e10
      exact ⟨x0, x1, x2, x3, x4, x5, x6, x7, x8, a, cap, l, x10, by rw [e0', e1', e2', e3', e4', e5', e6', e7', e8', e9', e10'], l3, l1, l2, w10, u32_range w7, u32_range w8⟩
#print axioms pkt_of
end Go.Proofs.YtncnildpbccpaaaDoor

