/- The document's own bytes of a packet: Right, Encode; and whether a packet is whole. -/
import Derived.Test.YtncnildpbccpaaaGreatDoorKo
import Derived.Test.YtncnildpbccpaaaGreatDoorKe
import Derived.Deep.DeepCutAuto
import Derived.Deep.Light
import Derived.Test.YtncnildpbccpaaaGreatDoorKv
set_option maxRecDepth 100000
namespace Go.Proofs.YtncnildpbccpaaaGreatDoor
open Go.RowKit
set_option linter.unusedVariables false

theorem refword_any (n : Nat) (w : World) (hn : n < 4294967296) :
    Calls Tryz.prog 28 #[.int .u32 n] w fun e w' => e = .returned (.string (ba (word n))) ∧ Below w.heap.size w w' := by
  have hcells : ∀ j (hj : j < (word n).length), (w.alloc (.cells #[.int .u8 ((n : Int) / 16777216), .int .u8 ((n : Int) / 65536 % 256), .int .u8 ((n : Int) / 256 % 256), .int .u8 ((n : Int) % 256)] 5)).cell? ((⟨w.heap.size, 0, none⟩ : Addr).add j) = some (.int .u8 ((word n)[j].toNat : Int)) := by
    intro j hj
    rw [Addr.add_lit, Nat.zero_add, World.cell?_alloc_new]
    match j, hj with
    | 0, _ => simp [word]; omega
    | 1, _ => simp [word]
    | 2, _ => simp [word]
    | 3, _ => simp [word]
  have hcv : (convert 40 9 (.slice (some ⟨w.heap.size, 0, none⟩) 4 4)).run Tryz.prog _ = .ok (.string (ba (word n))) _ := run_convert_bytes_back (P := Tryz.prog) _ 40 9 5 ⟨w.heap.size, 0, none⟩ 4 _ Tryz.underlying40 Tryz.underlying5 Tryz.underlying9 hcells
  clear hcells
  obtain ⟨s, hs⟩ : ∃ s : ByteArray, s = ba (word n) := ⟨_, rfl⟩
  rw [← hs] at hcv ⊢
  clear hs
  go_enter Tryz.func28, Tryz.ntmps28
  go_wp2
  go_ret
  exact ⟨rfl, (Below.refl _ _).alloc (Nat.le_refl _) _⟩

/-- A row of bytes as a text. -/
theorem conv_row (bs : List UInt8) (k : Nat) (X : Array Value) (hk : k = bs.length) (hX : X = (bs.map fun b => Value.int .u8 (b.toNat : Int)).toArray) (r : Nat) (w : World) (h : w.heap[r]? = some (.cells X 5 (0, 0))) :
    (convert 40 9 (.slice (some ⟨r, 0, none⟩) k k)).run Tryz.prog w = .ok (.string (ba bs)) w := by
  subst hk
  exact run_convert_bytes_back (P := Tryz.prog) _ 40 9 5 ⟨r, 0, none⟩ bs.length _ Tryz.underlying40 Tryz.underlying5 Tryz.underlying9 (fun j hj => by
    rw [Addr.add_lit, Nat.zero_add]
    simp [World.cell?, h, hX, hj])

theorem VS.keepB {b : Nat} {sp : List Spec} {w w' : World} (h : Below w.heap.size w w') : ∀ j u, VS b sp j u w → VS b sp j u w' := by
  intro j u hu
  unfold VS at *
  cases hs : sp[j]? with
  | none => trivial
  | some s =>
    rw [hs] at hu
    cases s with
    | val x => exact hu
    | row X T =>
      obtain ⟨r, h1, h2, h3⟩ := hu
      exact ⟨r, h1, h2, (h.block r (lt_of_block h3)).trans h3⟩

/-- The world of a region that makes rows and calls what only makes more: what lies below, the packet's block. -/
structure PlS (base : Nat) (wE : World) (N : Nat) (X : Array Value) (T : TypeId) (listed : Array Bool) (w : World) : Prop where
  bel : Below base wE w
  pk : w.heap[N]? = some (.cells X T (0, 0))
section
variable {base : Nat} {wE : World} {N : Nat} {X : Array Value} {T : TypeId} {listed : Array Bool} {w w' : World}
theorem PlS.calm (h : PlS base wE N X T listed w) (i : Nat) (hi : true = true) : PlS base wE N X T (listed.setIfInBounds i true) w := ⟨h.bel, h.pk⟩
theorem PlS.below (h : PlS base wE N X T listed w) (hbase : base ≤ wE.heap.size) (hb : Below w.heap.size w w') (i : Nat) (hi : true = true) : PlS base wE N X T (listed.setIfInBounds i true) w' :=
  ⟨h.bel.trans (hb.mono (Nat.le_trans hbase h.bel.size)), (hb.block N (lt_of_block h.pk)).trans h.pk⟩
theorem PlS.lt (h : PlS base wE N X T listed w) : N < w.heap.size := lt_of_block h.pk
end

theorem two_ba (n : Nat) : two n = ba (be2 n) := by
  show (⟨#[UInt8.ofNat (n / 256), UInt8.ofNat (n % 256)]⟩ : ByteArray) = ⟨#[UInt8.ofNat (n / 256), UInt8.ofNat n]⟩
  rw [show UInt8.ofNat (n % 256) = UInt8.ofNat n from by apply UInt8.toNat_inj.1; simp]

theorem ba_append (s t : List UInt8) : ba s ++ ba t = ba (s ++ t) := by
  apply ByteArray.ext
  rw [ByteArray.data_append]
  apply Array.toList_inj.1
  rw [Array.toList_append, ba_list, ba_list, ba_list]

theorem H.enc_doc (tos id : Nat) (df mf : Bool) (off ttl proto src dst : Nat) (l : List Opt) (d : ByteArray) :
    H.enc tos id df mf off ttl proto src dst l d = swap (ba [UInt8.ofNat (69 + O.size l / 4), UInt8.ofNat tos] ++ two (20 + O.size l + d.size) ++ two id ++ two (H.place off df mf) ++ ba [UInt8.ofNat ttl, UInt8.ofNat proto, 0, 0] ++ ba (word src) ++ ba (word dst) ++ ba (O.enc l)) 10 (csum (ba [UInt8.ofNat (69 + O.size l / 4), UInt8.ofNat tos] ++ two (20 + O.size l + d.size) ++ two id ++ two (H.place off df mf) ++ ba [UInt8.ofNat ttl, UInt8.ofNat proto, 0, 0] ++ ba (word src) ++ ba (word dst) ++ ba (O.enc l)) 10) ++ d := by
  have e : ba [UInt8.ofNat (69 + O.size l / 4), UInt8.ofNat tos] ++ two (20 + O.size l + d.size) ++ two id ++ two (H.place off df mf) ++ ba [UInt8.ofNat ttl, UInt8.ofNat proto, 0, 0] ++ ba (word src) ++ ba (word dst) ++ ba (O.enc l) = ba (H.head tos id df mf off ttl proto src dst l d.size) := by
    rw [two_ba, two_ba, two_ba]
    simp only [ba_append]
    congr 1
    unfold H.head H.head20
    rw [show 69 + O.size l / 4 = 64 + (20 + O.size l) / 4 by omega]
    simp [be1, be2]
  rw [e]
  rfl

set_option maxHeartbeats 8000000 in
theorem refenc5_any (tos id : Nat) (df mf : Bool) (off ttl proto src dst : Nat) (a : Option Addr) (cap : Nat) (l : List Opt) (d : ByteArray) (w : World) (h : OptRow w a l) (hl : l.length ≤ 60) (hsrc : src < 4294967296) (hdst : dst < 4294967296) (hr : H.Rt tos id off ttl proto l d.size) :
    Calls Tryz.prog 10 #[pk tos id df mf off ttl proto src dst (.slice a l.length cap) d] w fun e w' => e = .returned (.string (H.enc tos id df mf off ttl proto src dst l d)) ∧ Below w.heap.size w w' := by
  have i1 := hr.htos
  have i2 := hr.httl
  have i3 := hr.hproto
  have i4 := hr.hid
  have i5 := hr.hoff
  have i6 := hr.hall
  have i7 := hr.hsize
  have HE := Lib.hid (fun w' (h' : OptRow w' a l) => refEnc_any a cap l w' h' hl hr.hopts)
  have hEs : (⟨(O.enc l).toArray⟩ : ByteArray).size = O.size l := by show (O.enc l).toArray.size = _; simp [O.enc_length]
  have hLt := H.place_lt off df mf i5
  have HL := Lib.hid (show H.place off df mf = off / 8 + (if df then 16384 else 0) + (if mf then 8192 else 0) from rfl)
  rw [H.enc_doc]
  have H1 := Lib.hid (fun w' => short_any (20 + O.size l + d.size) w' i6)
  have H2 := Lib.hid (fun w' => short_any id w' i4)
  have H3 := Lib.hid (fun w' => short_any (H.place off df mf) w' (by omega))
  have H4 := Lib.hid (fun w' => refword_any src w' hsrc)
  have H5 := Lib.hid (fun w' => refword_any dst w' hdst)
  have o256 : ∀ n, n < 256 → ((UInt8.ofNat n).toNat : Int) = (n : Int) := fun n hn => by rw [H.of256 n hn]
  have HC0 := Lib.hid (fun r w' hw' => conv_row [UInt8.ofNat (69 + O.size l / 4), UInt8.ofNat tos] 2 #[.int .u8 ((69 + O.size l / 4 : Nat) : Int), .int .u8 (tos : Nat)] rfl (by simp only [List.map_cons, List.map_nil, o256 (69 + O.size l / 4) (by omega), o256 tos (by omega)]) r w' hw')
  have HC1 := Lib.hid (fun r w' hw' => conv_row [UInt8.ofNat ttl, UInt8.ofNat proto, 0, 0] 4 #[.int .u8 (ttl : Nat), .int .u8 (proto : Nat), .int .u8 0, .int .u8 0] rfl (by simp only [List.map_cons, List.map_nil, o256 ttl (by omega), o256 proto (by omega)]; rfl) r w' hw')
  clear o256
  have s0 : (ba [UInt8.ofNat (69 + O.size l / 4), UInt8.ofNat tos]).size = 2 := rfl
  have s1 : (ba [UInt8.ofNat ttl, UInt8.ofNat proto, 0, 0]).size = 4 := rfl
  have t1 := two_size (20 + O.size l + d.size)
  have t2 := two_size id
  have t3 := two_size (H.place off df mf)
  have t4 : (ba (word src)).size = 4 := rfl
  have t5 : (ba (word dst)).size = 4 := rfl
  have hEe : ba (O.enc l) = ⟨(O.enc l).toArray⟩ := rfl
  rw [hEe]
  clear hEe hr hl
  generalize (⟨(O.enc l).toArray⟩ : ByteArray) = E at *
  generalize ba [UInt8.ofNat (69 + O.size l / 4), UInt8.ofNat tos] = S0 at *
  generalize ba [UInt8.ofNat ttl, UInt8.ofNat proto, 0, 0] = S1 at *
  generalize two (20 + O.size l + d.size) = T1 at *
  generalize two id = T2 at *
  generalize two (H.place off df mf) = T3 at *
  generalize ba (word src) = T4 at *
  generalize ba (word dst) = T5 at *
  generalize H.place off df mf = L at *
  generalize O.size l = z at *
  have z38 : (S0 ++ T1).size = 4 := by rw [ByteArray.size_append, s0, t1]
  have z42 : (S0 ++ T1 ++ T2).size = 6 := by rw [ByteArray.size_append, z38, t2]
  have z45 : (S0 ++ T1 ++ T2 ++ T3).size = 8 := by rw [ByteArray.size_append, z42, t3]
  have hdiv : (z : Int) / 4 = ((z / 4 : Nat) : Int) := by omega
  generalize hQ : z / 4 = Q at *
  have hW4a : IntKind.i64.wrap (69 + (Q : Int)) = ((69 + Q : Nat) : Int) := by rw [IntWalk.i64_in _ (by omega)]; omega
  have hW4 : 69 + Q < 256 := by omega
  have hQw : IntKind.i64.wrap (Q : Int) = (Q : Int) := IntWalk.i64_in _ (by omega)
  have hZ0 : IntKind.i64.wrap (20 + (z : Int)) = ((20 + z : Nat) : Int) := by rw [IntWalk.i64_in _ (by omega)]; omega
  have hds : d.size ≤ 65535 := by omega
  generalize hn : d.size = n at *
  have hZ : IntKind.i64.wrap (((20 + z : Nat) : Int) + (n : Int)) = ((20 + z + n : Nat) : Int) := by rw [IntWalk.i64_in _ (by omega)]; omega
  generalize 20 + z + n = Z at *
  generalize 20 + z = Z0 at *
  generalize 69 + Q = W4 at *
  have c1 : IntKind.u8.wrap (W4 : Int) = (W4 : Int) := IntWalk.u8_in _ (by omega)
  have c2 : IntKind.u8.wrap (tos : Int) = (tos : Int) := IntWalk.u8_in _ (by omega)
  have c3 : IntKind.u8.wrap (ttl : Int) = (ttl : Int) := IntWalk.u8_in _ (by omega)
  have c4 : IntKind.u8.wrap (proto : Int) = (proto : Int) := IntWalk.u8_in _ (by omega)
  have e8 : (off : Int) / 8 = ((off / 8 : Nat) : Int) := by omega
  have hn8 : off / 8 < 8192 := by omega
  generalize off / 8 = n8 at *
  have Hc : Hid (∀ w' : World, w'.heap[w.heap.size]? = some (pkO tos id df mf off ttl proto src dst (.slice a l.length cap) d) → w'.cell? ⟨w.heap.size, 0, none⟩ = some (.int .i64 (tos : Nat)) ∧ w'.cell? ⟨w.heap.size, 1, none⟩ = some (.int .i64 (id : Nat)) ∧ w'.cell? ⟨w.heap.size, 2, none⟩ = some (.bool df) ∧ w'.cell? ⟨w.heap.size, 3, none⟩ = some (.bool mf) ∧ w'.cell? ⟨w.heap.size, 4, none⟩ = some (.int .i64 (off : Nat)) ∧ w'.cell? ⟨w.heap.size, 5, none⟩ = some (.int .i64 (ttl : Nat)) ∧ w'.cell? ⟨w.heap.size, 6, none⟩ = some (.int .i64 (proto : Nat)) ∧ w'.cell? ⟨w.heap.size, 7, none⟩ = some (.int .u32 (src : Nat)) ∧ w'.cell? ⟨w.heap.size, 8, none⟩ = some (.int .u32 (dst : Nat)) ∧ w'.cell? ⟨w.heap.size, 9, none⟩ = some ((.slice a l.length cap)) ∧ w'.cell? ⟨w.heap.size, 10, none⟩ = some (.string d)) :=
    Lib.hid fun w' hw' => by simp [World.cell?, hw']
  have hpk0 : (w.alloc (pkO tos id df mf off ttl proto src dst (.slice a l.length cap) d)).heap[w.heap.size]? = some (pkO tos id df mf off ttl proto src dst (.slice a l.length cap) d) := heap_alloc_new w _
  have hb0 : Below w.heap.size w (w.alloc (pkO tos id df mf off ttl proto src dst (.slice a l.length cap) d)) := (Below.refl _ w).alloc (Nat.le_refl _) _
  go_enter Tryz.func10, Tryz.ntmps10
  go_wp2_with fail
  refine (HE.out _ (h.carry hb0)).mono ?_
  rintro e w1 ⟨rfl, hb1⟩
  have hb1w := hb0.trans (hb1.mono hb0.size)
  have hpk1 := (hb1.block w.heap.size (lt_of_block hpk0)).trans hpk0
  clear HE hb0 hb1 hpk0
  obtain ⟨k0, k1, k2, k3, k4, k5, k6, k7, k8, k9, k10⟩ := Hc.out _ hpk1
  go_upto_if 13 with fail
  go_cut [4] (fun y wr => y = .int .i64 ((n8 + (if df then 16384 else 0) : Nat) : Int) ∧ wr = w1)
  case first =>
    cases df
    · go_wp2_with fail
      go_meet
      exact ⟨rfl, rfl⟩
    · have hw : IntKind.i64.wrap ((n8 : Int) + 16384) = ((n8 + 16384 : Nat) : Int) := by rw [IntWalk.i64_in _ (by omega)]; omega
      go_wp2_with fail
      go_meet
      exact ⟨by simp, rfl⟩
  obtain ⟨rfl, rfl⟩ := hcut
  have hf1 : n8 + (if df then 16384 else 0) ≤ 30000 := by cases df <;> simp <;> omega
  generalize n8 + (if df then 16384 else 0) = f1 at *
  go_upto_if 17 with fail
  go_cut [4] (fun y wr => y = .int .i64 ((f1 + (if mf then 8192 else 0) : Nat) : Int) ∧ wr = wc)
  case first =>
    cases mf
    · go_wp2_with fail
      go_meet
      exact ⟨rfl, rfl⟩
    · have hw : IntKind.i64.wrap ((f1 : Int) + 8192) = ((f1 + 8192 : Nat) : Int) := by rw [IntWalk.i64_in _ (by omega)]; omega
      go_wp2_with fail
      go_meet
      exact ⟨by simp, rfl⟩
  obtain ⟨rfl, rfl⟩ := hcut
  rw [← HL.out]
  go_upto_region 7 with fail
  clear k0 k1 k2 k3 k4 k5 k6 k7 k8 k9 k10
  have hb65 : (9223372036854775807 < 20 + z) = False := by simp; omega
  have z55 : (S0 ++ T1 ++ T2 ++ T3 ++ S1).size = 12 := by rw [ByteArray.size_append, z45, s1]
  have z59 : (S0 ++ T1 ++ T2 ++ T3 ++ S1 ++ T4).size = 16 := by rw [ByteArray.size_append, z55, t4]
  have z63 : (S0 ++ T1 ++ T2 ++ T3 ++ S1 ++ T4 ++ T5).size = 20 := by rw [ByteArray.size_append, z59, t5]
  have z65 : (S0 ++ T1 ++ T2 ++ T3 ++ S1 ++ T4 ++ T5 ++ E).size = 20 + z := by rw [ByteArray.size_append, z63, hEs]
  have HP := Lib.hid (fun w' => refput_any (S0 ++ T1 ++ T2 ++ T3 ++ S1 ++ T4 ++ T5 ++ E) 10 w' (by omega) (by omega))
  have HPz := Lib.hid (fun c => (swap_size (S0 ++ T1 ++ T2 ++ T3 ++ S1 ++ T4 ++ T5 ++ E) 10 c (by omega)).trans z65)
  generalize hN : w.heap.size = N at *
  have hbase : N ≤ w.heap.size := by rw [hN]; exact Nat.le_refl _
  refine region_plan' (VS N [.val (.string (E)), .val (.int .i64 (z : Nat)), .val (.int .i64 (Q : Nat)), .val (.int .i64 (W4 : Nat)), .val (.int .u8 (W4 : Nat)), .val (.pointer (some ⟨N, 0, none⟩)), .val (.int .i64 (tos : Nat)), .val (.int .u8 (tos : Nat)), .row #[.int .u8 (W4 : Nat), .int .u8 (tos : Nat)] 5, .val (.string (S0)), .val (.string (E)), .val (.int .i64 (z : Nat)), .val (.int .i64 (Z0 : Nat)), .val (.pointer (some ⟨N, 10, none⟩)), .val (.string (d)), .val (.int .i64 (n : Nat)), .val (.int .i64 (Z : Nat)), .val (.string (T1)), .val (.string (S0 ++ T1)), .val (.pointer (some ⟨N, 1, none⟩)), .val (.int .i64 (id : Nat)), .val (.string (T2)), .val (.string (S0 ++ T1 ++ T2)), .val (.int .i64 (L : Nat)), .val (.string (T3)), .val (.string (S0 ++ T1 ++ T2 ++ T3)), .val (.string (S0 ++ T1 ++ T2 ++ T3))]) (PlS N w N #[.int .i64 (tos : Nat), .int .i64 (id : Nat), .bool df, .bool mf, .int .i64 (off : Nat), .int .i64 (ttl : Nat), .int .i64 (proto : Nat), .int .u32 (src : Nat), .int .u32 (dst : Nat), .slice a l.length cap, .string d] 25) (by kernel_rfl) (by kernel_rfl) ⟨hb1w.drew, hpk1⟩ ⟨?_, ?_, ?_, ?_, ?_, ?_, ?_, ?_, ?_, ?_, ?_, ?_, ?_, ?_, ?_, ?_, ?_, ?_, ?_, ?_, ?_, ?_, ?_, ?_, ?_, ?_, ?_, trivial⟩ ?_
  · go_light
    intro listed a' w' hs hS hun hdep
    have e3 : a'.eval (.tmp 3) = .string (E) := (hs.was' 3 (by kernel_rfl)).trans (rfl)
    have hcn := BigFrame.eval_const a'
    have hfn := BigFrame.eval_func a'
    generalize a'.eval = ev at *
    exact plan_val (.string (E)) w' (by go_simp) ⟨rfl, hS.calm 0 (by kernel_rfl), fun _ _ h => h⟩
  · go_light
    intro listed a' w' hs hS hun hdep
    have e20 : a'.eval (.tmp 20) = .string (E) := hs.eval 0 _ 20 rfl (hdep ⟨0, .data⟩ (by simp) rfl) rfl
    have hcn := BigFrame.eval_const a'
    have hfn := BigFrame.eval_func a'
    generalize a'.eval = ev at *
    exact plan_val (.int .i64 (z : Nat)) w' (by go_simp) ⟨rfl, hS.calm 1 (by kernel_rfl), fun _ _ h => h⟩
  · go_light
    intro listed a' w' hs hS hun hdep
    have e21 : a'.eval (.tmp 21) = .int .i64 (z : Nat) := hs.eval 1 _ 21 rfl (hdep ⟨1, .data⟩ (by simp) rfl) rfl
    have hcn := BigFrame.eval_const a'
    have hfn := BigFrame.eval_func a'
    generalize a'.eval = ev at *
    exact plan_val (.int .i64 (Q : Nat)) w' (by go_simp) ⟨rfl, hS.calm 2 (by kernel_rfl), fun _ _ h => h⟩
  · go_light
    intro listed a' w' hs hS hun hdep
    have e22 : a'.eval (.tmp 22) = .int .i64 (Q : Nat) := hs.eval 2 _ 22 rfl (hdep ⟨2, .data⟩ (by simp) rfl) rfl
    have hcn := BigFrame.eval_const a'
    have hfn := BigFrame.eval_func a'
    generalize a'.eval = ev at *
    exact plan_val (.int .i64 (W4 : Nat)) w' (by go_simp) ⟨rfl, hS.calm 3 (by kernel_rfl), fun _ _ h => h⟩
  · go_light
    intro listed a' w' hs hS hun hdep
    have e23 : a'.eval (.tmp 23) = .int .i64 (W4 : Nat) := hs.eval 3 _ 23 rfl (hdep ⟨3, .data⟩ (by simp) rfl) rfl
    have hcn := BigFrame.eval_const a'
    have hfn := BigFrame.eval_func a'
    generalize a'.eval = ev at *
    exact plan_val (.int .u8 (W4 : Nat)) w' (by go_simp) ⟨rfl, hS.calm 4 (by kernel_rfl), fun _ _ h => h⟩
  · go_light
    intro listed a' w' hs hS hun hdep
    have e1 : a'.eval (.tmp 1) = .pointer (some ⟨N, 0, none⟩) := (hs.was' 1 (by kernel_rfl)).trans (rfl)
    have hcn := BigFrame.eval_const a'
    have hfn := BigFrame.eval_func a'
    generalize a'.eval = ev at *
    exact plan_val (.pointer (some ⟨N, 0, none⟩)) w' (by go_simp) ⟨rfl, hS.calm 5 (by kernel_rfl), fun _ _ h => h⟩
  · go_light
    intro listed a' w' hs hS hun hdep
    have e25 : a'.eval (.tmp 25) = .pointer (some ⟨N, 0, none⟩) := hs.eval 5 _ 25 rfl (hdep ⟨5, .data⟩ (by simp) rfl) rfl
    have hcn := BigFrame.eval_const a'
    have hfn := BigFrame.eval_func a'
    generalize a'.eval = ev at *
    obtain ⟨k0, k1, k2, k3, k4, k5, k6, k7, k8, k9, k10⟩ := Hc.out _ hS.pk
    exact plan_val (.int .i64 (tos : Nat)) w' (by go_simp) ⟨rfl, hS.calm 6 (by kernel_rfl), fun _ _ h => h⟩
  · go_light
    intro listed a' w' hs hS hun hdep
    have e26 : a'.eval (.tmp 26) = .int .i64 (tos : Nat) := hs.eval 6 _ 26 rfl (hdep ⟨6, .data⟩ (by simp) rfl) rfl
    have hcn := BigFrame.eval_const a'
    have hfn := BigFrame.eval_func a'
    generalize a'.eval = ev at *
    exact plan_val (.int .u8 (tos : Nat)) w' (by go_simp) ⟨rfl, hS.calm 7 (by kernel_rfl), fun _ _ h => h⟩
  · go_light
    intro listed a' w' hs hS hun hdep
    have e24 : a'.eval (.tmp 24) = .int .u8 (W4 : Nat) := hs.eval 4 _ 24 rfl (hdep ⟨4, .data⟩ (by simp) rfl) rfl
    have e27 : a'.eval (.tmp 27) = .int .u8 (tos : Nat) := hs.eval 7 _ 27 rfl (hdep ⟨7, .data⟩ (by simp) rfl) rfl
    have hcn := BigFrame.eval_const a'
    have hfn := BigFrame.eval_func a'
    generalize a'.eval = ev at *
    have hlt := hS.lt
    exact plan_val (.slice (some ⟨w'.heap.size, 0, none⟩) 2 2) (w'.alloc (.cells #[.int .u8 (W4 : Nat), .int .u8 (tos : Nat)] 5)) (by go_simp) ⟨⟨w'.heap.size, by omega, rfl, heap_alloc_new w' _⟩, hS.below hbase ((Below.refl _ w').alloc (Nat.le_refl _) _) 8 (by kernel_rfl), VS.keepB ((Below.refl _ w').alloc (Nat.le_refl _) _)⟩
  · go_light
    intro listed a' w' hs hS hun hdep
    have r28 : (Spec.row #[.int .u8 (W4 : Nat), .int .u8 (tos : Nat)] 5).ok N (a'.eval (.tmp 28)) w' := hs.eval 8 _ 28 rfl (hdep ⟨8, .data⟩ (by simp) rfl) rfl
    generalize hg28 : a'.eval (.tmp 28) = g28 at r28
    have hcn := BigFrame.eval_const a'
    have hfn := BigFrame.eval_func a'
    generalize a'.eval = ev at *
    obtain ⟨rr, _, rfl, hrow⟩ := r28
    have hcv : (convert 40 9 (.slice (some ⟨rr, 0, none⟩) 2 2)).run Tryz.prog w' = .ok (.string S0) w' := HC0.out rr w' hrow
    exact plan_val (.string S0) w' (by go_simp) ⟨rfl, hS.calm 9 (by kernel_rfl), fun _ _ h => h⟩
  · go_light
    intro listed a' w' hs hS hun hdep
    have e3 : a'.eval (.tmp 3) = .string (E) := (hs.was' 3 (by kernel_rfl)).trans (rfl)
    have hcn := BigFrame.eval_const a'
    have hfn := BigFrame.eval_func a'
    generalize a'.eval = ev at *
    exact plan_val (.string (E)) w' (by go_simp) ⟨rfl, hS.calm 10 (by kernel_rfl), fun _ _ h => h⟩
  · go_light
    intro listed a' w' hs hS hun hdep
    have e30 : a'.eval (.tmp 30) = .string (E) := hs.eval 10 _ 30 rfl (hdep ⟨10, .data⟩ (by simp) rfl) rfl
    have hcn := BigFrame.eval_const a'
    have hfn := BigFrame.eval_func a'
    generalize a'.eval = ev at *
    exact plan_val (.int .i64 (z : Nat)) w' (by go_simp) ⟨rfl, hS.calm 11 (by kernel_rfl), fun _ _ h => h⟩
  · go_light
    intro listed a' w' hs hS hun hdep
    have e31 : a'.eval (.tmp 31) = .int .i64 (z : Nat) := hs.eval 11 _ 31 rfl (hdep ⟨11, .data⟩ (by simp) rfl) rfl
    have hcn := BigFrame.eval_const a'
    have hfn := BigFrame.eval_func a'
    generalize a'.eval = ev at *
    exact plan_val (.int .i64 (Z0 : Nat)) w' (by go_simp) ⟨rfl, hS.calm 12 (by kernel_rfl), fun _ _ h => h⟩
  · go_light
    intro listed a' w' hs hS hun hdep
    have e1 : a'.eval (.tmp 1) = .pointer (some ⟨N, 0, none⟩) := (hs.was' 1 (by kernel_rfl)).trans (rfl)
    have hcn := BigFrame.eval_const a'
    have hfn := BigFrame.eval_func a'
    generalize a'.eval = ev at *
    exact plan_val (.pointer (some ⟨N, 10, none⟩)) w' (by go_simp) ⟨rfl, hS.calm 13 (by kernel_rfl), fun _ _ h => h⟩
  · go_light
    intro listed a' w' hs hS hun hdep
    have e33 : a'.eval (.tmp 33) = .pointer (some ⟨N, 10, none⟩) := hs.eval 13 _ 33 rfl (hdep ⟨13, .data⟩ (by simp) rfl) rfl
    have hcn := BigFrame.eval_const a'
    have hfn := BigFrame.eval_func a'
    generalize a'.eval = ev at *
    obtain ⟨k0, k1, k2, k3, k4, k5, k6, k7, k8, k9, k10⟩ := Hc.out _ hS.pk
    exact plan_val (.string (d)) w' (by go_simp) ⟨rfl, hS.calm 14 (by kernel_rfl), fun _ _ h => h⟩
  · go_light
    intro listed a' w' hs hS hun hdep
    have e34 : a'.eval (.tmp 34) = .string (d) := hs.eval 14 _ 34 rfl (hdep ⟨14, .data⟩ (by simp) rfl) rfl
    have hcn := BigFrame.eval_const a'
    have hfn := BigFrame.eval_func a'
    generalize a'.eval = ev at *
    exact plan_val (.int .i64 (n : Nat)) w' (by go_simp) ⟨rfl, hS.calm 15 (by kernel_rfl), fun _ _ h => h⟩
  · go_light
    intro listed a' w' hs hS hun hdep
    have e32 : a'.eval (.tmp 32) = .int .i64 (Z0 : Nat) := hs.eval 12 _ 32 rfl (hdep ⟨12, .data⟩ (by simp) rfl) rfl
    have e35 : a'.eval (.tmp 35) = .int .i64 (n : Nat) := hs.eval 15 _ 35 rfl (hdep ⟨15, .data⟩ (by simp) rfl) rfl
    have hcn := BigFrame.eval_const a'
    have hfn := BigFrame.eval_func a'
    generalize a'.eval = ev at *
    exact plan_val (.int .i64 (Z : Nat)) w' (by go_simp) ⟨rfl, hS.calm 16 (by kernel_rfl), fun _ _ h => h⟩
  · go_light
    intro listed a' w' hs hS hun hdep
    have e36 : a'.eval (.tmp 36) = .int .i64 (Z : Nat) := hs.eval 16 _ 36 rfl (hdep ⟨16, .data⟩ (by simp) rfl) rfl
    have hcn := BigFrame.eval_const a'
    have hfn := BigFrame.eval_func a'
    generalize a'.eval = ev at *
    refine plan_call 27 #[.int .i64 (Z : Nat)] w' (by go_simp) ?_
    refine (H1.out w').mono ?_
    rintro e w'' ⟨rfl, hb⟩
    exact ⟨_, rfl, rfl, hS.below hbase hb 17 (by kernel_rfl), VS.keepB hb⟩
  · go_light
    intro listed a' w' hs hS hun hdep
    have e29 : a'.eval (.tmp 29) = .string (S0) := hs.eval 9 _ 29 rfl (hdep ⟨9, .data⟩ (by simp) rfl) rfl
    have e37 : a'.eval (.tmp 37) = .string (T1) := hs.eval 17 _ 37 rfl (hdep ⟨17, .data⟩ (by simp) rfl) rfl
    have hcn := BigFrame.eval_const a'
    have hfn := BigFrame.eval_func a'
    generalize a'.eval = ev at *
    exact plan_val (.string (S0 ++ T1)) w' (by go_simp) ⟨rfl, hS.calm 18 (by kernel_rfl), fun _ _ h => h⟩
  · go_light
    intro listed a' w' hs hS hun hdep
    have e1 : a'.eval (.tmp 1) = .pointer (some ⟨N, 0, none⟩) := (hs.was' 1 (by kernel_rfl)).trans (rfl)
    have hcn := BigFrame.eval_const a'
    have hfn := BigFrame.eval_func a'
    generalize a'.eval = ev at *
    exact plan_val (.pointer (some ⟨N, 1, none⟩)) w' (by go_simp) ⟨rfl, hS.calm 19 (by kernel_rfl), fun _ _ h => h⟩
  · go_light
    intro listed a' w' hs hS hun hdep
    have e39 : a'.eval (.tmp 39) = .pointer (some ⟨N, 1, none⟩) := hs.eval 19 _ 39 rfl (hdep ⟨19, .data⟩ (by simp) rfl) rfl
    have hcn := BigFrame.eval_const a'
    have hfn := BigFrame.eval_func a'
    generalize a'.eval = ev at *
    obtain ⟨k0, k1, k2, k3, k4, k5, k6, k7, k8, k9, k10⟩ := Hc.out _ hS.pk
    exact plan_val (.int .i64 (id : Nat)) w' (by go_simp) ⟨rfl, hS.calm 20 (by kernel_rfl), fun _ _ h => h⟩
  · go_light
    intro listed a' w' hs hS hun hdep
    have e40 : a'.eval (.tmp 40) = .int .i64 (id : Nat) := hs.eval 20 _ 40 rfl (hdep ⟨20, .data⟩ (by simp) rfl) rfl
    have hcn := BigFrame.eval_const a'
    have hfn := BigFrame.eval_func a'
    generalize a'.eval = ev at *
    refine plan_call 27 #[.int .i64 (id : Nat)] w' (by go_simp) ?_
    refine (H2.out w').mono ?_
    rintro e w'' ⟨rfl, hb⟩
    exact ⟨_, rfl, rfl, hS.below hbase hb 21 (by kernel_rfl), VS.keepB hb⟩
  · go_light
    intro listed a' w' hs hS hun hdep
    have e38 : a'.eval (.tmp 38) = .string (S0 ++ T1) := hs.eval 18 _ 38 rfl (hdep ⟨18, .data⟩ (by simp) rfl) rfl
    have e41 : a'.eval (.tmp 41) = .string (T2) := hs.eval 21 _ 41 rfl (hdep ⟨21, .data⟩ (by simp) rfl) rfl
    have hcn := BigFrame.eval_const a'
    have hfn := BigFrame.eval_func a'
    generalize a'.eval = ev at *
    exact plan_val (.string (S0 ++ T1 ++ T2)) w' (by go_simp) ⟨rfl, hS.calm 22 (by kernel_rfl), fun _ _ h => h⟩
  · go_light
    intro listed a' w' hs hS hun hdep
    have e4 : a'.eval (.tmp 4) = .int .i64 (L : Nat) := (hs.was' 4 (by kernel_rfl)).trans (rfl)
    have hcn := BigFrame.eval_const a'
    have hfn := BigFrame.eval_func a'
    generalize a'.eval = ev at *
    exact plan_val (.int .i64 (L : Nat)) w' (by go_simp) ⟨rfl, hS.calm 23 (by kernel_rfl), fun _ _ h => h⟩
  · go_light
    intro listed a' w' hs hS hun hdep
    have e43 : a'.eval (.tmp 43) = .int .i64 (L : Nat) := hs.eval 23 _ 43 rfl (hdep ⟨23, .data⟩ (by simp) rfl) rfl
    have hcn := BigFrame.eval_const a'
    have hfn := BigFrame.eval_func a'
    generalize a'.eval = ev at *
    refine plan_call 27 #[.int .i64 (L : Nat)] w' (by go_simp) ?_
    refine (H3.out w').mono ?_
    rintro e w'' ⟨rfl, hb⟩
    exact ⟨_, rfl, rfl, hS.below hbase hb 24 (by kernel_rfl), VS.keepB hb⟩
  · go_light
    intro listed a' w' hs hS hun hdep
    have e42 : a'.eval (.tmp 42) = .string (S0 ++ T1 ++ T2) := hs.eval 22 _ 42 rfl (hdep ⟨22, .data⟩ (by simp) rfl) rfl
    have e44 : a'.eval (.tmp 44) = .string (T3) := hs.eval 24 _ 44 rfl (hdep ⟨24, .data⟩ (by simp) rfl) rfl
    have hcn := BigFrame.eval_const a'
    have hfn := BigFrame.eval_func a'
    generalize a'.eval = ev at *
    exact plan_val (.string (S0 ++ T1 ++ T2 ++ T3)) w' (by go_simp) ⟨rfl, hS.calm 25 (by kernel_rfl), fun _ _ h => h⟩
  · go_light
    intro listed a' w' hs hS hun hdep
    have e45 : a'.eval (.tmp 45) = .string (S0 ++ T1 ++ T2 ++ T3) := hs.eval 25 _ 45 rfl (hdep ⟨25, .data⟩ (by simp) rfl) rfl
    have hcn := BigFrame.eval_const a'
    have hfn := BigFrame.eval_func a'
    generalize a'.eval = ev at *
    exact plan_val (.string (S0 ++ T1 ++ T2 ++ T3)) w' (by go_simp) ⟨rfl, hS.calm 26 (by kernel_rfl), fun _ _ h => h⟩
  intro vs listed w7 hlen hV hall hS
  match vs, hlen, hV with
  | [v7_0, v7_1, v7_2, v7_3, v7_4, v7_5, v7_6, v7_7, v7_8, v7_9, v7_10, v7_11, v7_12, v7_13, v7_14, v7_15, v7_16, v7_17, v7_18, v7_19, v7_20, v7_21, v7_22, v7_23, v7_24, v7_25, v7_26], _, hV =>
    have q0 : v7_0 = .string (E) := hV 0 _ rfl
    have q1 : v7_1 = .int .i64 (z : Nat) := hV 1 _ rfl
    have q2 : v7_2 = .int .i64 (Q : Nat) := hV 2 _ rfl
    have q3 : v7_3 = .int .i64 (W4 : Nat) := hV 3 _ rfl
    have q4 : v7_4 = .int .u8 (W4 : Nat) := hV 4 _ rfl
    have q5 : v7_5 = .pointer (some ⟨N, 0, none⟩) := hV 5 _ rfl
    have q6 : v7_6 = .int .i64 (tos : Nat) := hV 6 _ rfl
    have q7 : v7_7 = .int .u8 (tos : Nat) := hV 7 _ rfl
    obtain ⟨r7_8, _, q8, _⟩ : (Spec.row #[.int .u8 (W4 : Nat), .int .u8 (tos : Nat)] 5).ok N v7_8 w7 := hV 8 _ rfl
    have q9 : v7_9 = .string (S0) := hV 9 _ rfl
    have q10 : v7_10 = .string (E) := hV 10 _ rfl
    have q11 : v7_11 = .int .i64 (z : Nat) := hV 11 _ rfl
    have q12 : v7_12 = .int .i64 (Z0 : Nat) := hV 12 _ rfl
    have q13 : v7_13 = .pointer (some ⟨N, 10, none⟩) := hV 13 _ rfl
    have q14 : v7_14 = .string (d) := hV 14 _ rfl
    have q15 : v7_15 = .int .i64 (n : Nat) := hV 15 _ rfl
    have q16 : v7_16 = .int .i64 (Z : Nat) := hV 16 _ rfl
    have q17 : v7_17 = .string (T1) := hV 17 _ rfl
    have q18 : v7_18 = .string (S0 ++ T1) := hV 18 _ rfl
    have q19 : v7_19 = .pointer (some ⟨N, 1, none⟩) := hV 19 _ rfl
    have q20 : v7_20 = .int .i64 (id : Nat) := hV 20 _ rfl
    have q21 : v7_21 = .string (T2) := hV 21 _ rfl
    have q22 : v7_22 = .string (S0 ++ T1 ++ T2) := hV 22 _ rfl
    have q23 : v7_23 = .int .i64 (L : Nat) := hV 23 _ rfl
    have q24 : v7_24 = .string (T3) := hV 24 _ rfl
    have q25 : v7_25 = .string (S0 ++ T1 ++ T2 ++ T3) := hV 25 _ rfl
    have q26 : v7_26 = .string (S0 ++ T1 ++ T2 ++ T3) := hV 26 _ rfl
    have hbel7 := hS.bel
    have hpk7 := hS.pk
    subst q0 q1 q2 q3 q4 q5 q6 q7 q8 q9 q10 q11 q12 q13 q14 q15 q16 q17 q18 q19 q20 q21 q22 q23 q24 q25 q26
    clear hV hall hS
    simp only [lays, Act.put, List.setIfInBounds_toArray, List.set_cons_zero, List.set_cons_succ]
    clear H1 H2 H3 HC0 hb1w hpk1 z38 z42 s0 t1 t2 t3 c1 c2 hW4a hZ0 hZ hdiv
    generalize hM : S0 ++ T1 ++ T2 ++ T3 = M at *
    have HM := Lib.hid hM
    clear hM
    go_upto_region 8 with fail
    refine region_plan' (VS N [.val (.string (M)), .val (.pointer (some ⟨N, 5, none⟩)), .val (.int .i64 (ttl : Nat)), .val (.int .u8 (ttl : Nat)), .val (.pointer (some ⟨N, 6, none⟩)), .val (.int .i64 (proto : Nat)), .val (.int .u8 (proto : Nat)), .row #[.int .u8 (ttl : Nat), .int .u8 (proto : Nat), .int .u8 0, .int .u8 0] 5, .val (.string (S1)), .val (.string (M ++ S1)), .val (.pointer (some ⟨N, 7, none⟩)), .val (.int .u32 (src : Nat)), .val (.string (T4)), .val (.string (M ++ S1 ++ T4)), .val (.pointer (some ⟨N, 8, none⟩)), .val (.int .u32 (dst : Nat)), .val (.string (T5)), .val (.string (M ++ S1 ++ T4 ++ T5)), .val (.string (E)), .val (.string (M ++ S1 ++ T4 ++ T5 ++ E)), .val (.string (M ++ S1 ++ T4 ++ T5 ++ E))]) (PlS N w N #[.int .i64 (tos : Nat), .int .i64 (id : Nat), .bool df, .bool mf, .int .i64 (off : Nat), .int .i64 (ttl : Nat), .int .i64 (proto : Nat), .int .u32 (src : Nat), .int .u32 (dst : Nat), .slice a l.length cap, .string d] 25) (by kernel_rfl) (by kernel_rfl) ⟨hbel7.drew, hpk7⟩ ⟨?_, ?_, ?_, ?_, ?_, ?_, ?_, ?_, ?_, ?_, ?_, ?_, ?_, ?_, ?_, ?_, ?_, ?_, ?_, ?_, ?_, trivial⟩ ?_
    · go_light
      intro listed a' w' hs hS hun hdep
      have n9 := hs.later 0 9 hun _ rfl .data (by simp) rfl
      have n13 := hs.later 9 13 n9 _ rfl .data (by simp) rfl
      have n17 := hs.later 13 17 n13 _ rfl .data (by simp) rfl
      have n19 := hs.later 17 19 n17 _ rfl .data (by simp) rfl
      have n20 := hs.later 19 20 n19 _ rfl .data (by simp) rfl
      have e5 : a'.eval (.tmp 5) = .string (M) := (hs.yet 5 20 (by kernel_rfl) n20).trans rfl
      have hcn := BigFrame.eval_const a'
      have hfn := BigFrame.eval_func a'
      generalize a'.eval = ev at *
      exact plan_val (.string (M)) w' (by go_simp) ⟨rfl, hS.calm 0 (by kernel_rfl), fun _ _ h => h⟩
    · go_light
      intro listed a' w' hs hS hun hdep
      have e1 : a'.eval (.tmp 1) = .pointer (some ⟨N, 0, none⟩) := (hs.was' 1 (by kernel_rfl)).trans (rfl)
      have hcn := BigFrame.eval_const a'
      have hfn := BigFrame.eval_func a'
      generalize a'.eval = ev at *
      exact plan_val (.pointer (some ⟨N, 5, none⟩)) w' (by go_simp) ⟨rfl, hS.calm 1 (by kernel_rfl), fun _ _ h => h⟩
    · go_light
      intro listed a' w' hs hS hun hdep
      have e47 : a'.eval (.tmp 47) = .pointer (some ⟨N, 5, none⟩) := hs.eval 1 _ 47 rfl (hdep ⟨1, .data⟩ (by simp) rfl) rfl
      have hcn := BigFrame.eval_const a'
      have hfn := BigFrame.eval_func a'
      generalize a'.eval = ev at *
      obtain ⟨k0, k1, k2, k3, k4, k5, k6, k7, k8, k9, k10⟩ := Hc.out _ hS.pk
      exact plan_val (.int .i64 (ttl : Nat)) w' (by go_simp) ⟨rfl, hS.calm 2 (by kernel_rfl), fun _ _ h => h⟩
    · go_light
      intro listed a' w' hs hS hun hdep
      have e48 : a'.eval (.tmp 48) = .int .i64 (ttl : Nat) := hs.eval 2 _ 48 rfl (hdep ⟨2, .data⟩ (by simp) rfl) rfl
      have hcn := BigFrame.eval_const a'
      have hfn := BigFrame.eval_func a'
      generalize a'.eval = ev at *
      exact plan_val (.int .u8 (ttl : Nat)) w' (by go_simp) ⟨rfl, hS.calm 3 (by kernel_rfl), fun _ _ h => h⟩
    · go_light
      intro listed a' w' hs hS hun hdep
      have e1 : a'.eval (.tmp 1) = .pointer (some ⟨N, 0, none⟩) := (hs.was' 1 (by kernel_rfl)).trans (rfl)
      have hcn := BigFrame.eval_const a'
      have hfn := BigFrame.eval_func a'
      generalize a'.eval = ev at *
      exact plan_val (.pointer (some ⟨N, 6, none⟩)) w' (by go_simp) ⟨rfl, hS.calm 4 (by kernel_rfl), fun _ _ h => h⟩
    · go_light
      intro listed a' w' hs hS hun hdep
      have e50 : a'.eval (.tmp 50) = .pointer (some ⟨N, 6, none⟩) := hs.eval 4 _ 50 rfl (hdep ⟨4, .data⟩ (by simp) rfl) rfl
      have hcn := BigFrame.eval_const a'
      have hfn := BigFrame.eval_func a'
      generalize a'.eval = ev at *
      obtain ⟨k0, k1, k2, k3, k4, k5, k6, k7, k8, k9, k10⟩ := Hc.out _ hS.pk
      exact plan_val (.int .i64 (proto : Nat)) w' (by go_simp) ⟨rfl, hS.calm 5 (by kernel_rfl), fun _ _ h => h⟩
    · go_light
      intro listed a' w' hs hS hun hdep
      have e51 : a'.eval (.tmp 51) = .int .i64 (proto : Nat) := hs.eval 5 _ 51 rfl (hdep ⟨5, .data⟩ (by simp) rfl) rfl
      have hcn := BigFrame.eval_const a'
      have hfn := BigFrame.eval_func a'
      generalize a'.eval = ev at *
      exact plan_val (.int .u8 (proto : Nat)) w' (by go_simp) ⟨rfl, hS.calm 6 (by kernel_rfl), fun _ _ h => h⟩
    · go_light
      intro listed a' w' hs hS hun hdep
      have e49 : a'.eval (.tmp 49) = .int .u8 (ttl : Nat) := hs.eval 3 _ 49 rfl (hdep ⟨3, .data⟩ (by simp) rfl) rfl
      have e52 : a'.eval (.tmp 52) = .int .u8 (proto : Nat) := hs.eval 6 _ 52 rfl (hdep ⟨6, .data⟩ (by simp) rfl) rfl
      have hcn := BigFrame.eval_const a'
      have hfn := BigFrame.eval_func a'
      generalize a'.eval = ev at *
      have hlt := hS.lt
      exact plan_val (.slice (some ⟨w'.heap.size, 0, none⟩) 4 4) (w'.alloc (.cells #[.int .u8 (ttl : Nat), .int .u8 (proto : Nat), .int .u8 0, .int .u8 0] 5)) (by go_simp) ⟨⟨w'.heap.size, by omega, rfl, heap_alloc_new w' _⟩, hS.below hbase ((Below.refl _ w').alloc (Nat.le_refl _) _) 7 (by kernel_rfl), VS.keepB ((Below.refl _ w').alloc (Nat.le_refl _) _)⟩
    · go_light
      intro listed a' w' hs hS hun hdep
      have r53 : (Spec.row #[.int .u8 (ttl : Nat), .int .u8 (proto : Nat), .int .u8 0, .int .u8 0] 5).ok N (a'.eval (.tmp 53)) w' := hs.eval 7 _ 53 rfl (hdep ⟨7, .data⟩ (by simp) rfl) rfl
      generalize hg53 : a'.eval (.tmp 53) = g53 at r53
      have hcn := BigFrame.eval_const a'
      have hfn := BigFrame.eval_func a'
      generalize a'.eval = ev at *
      obtain ⟨rr, _, rfl, hrow⟩ := r53
      have hcv : (convert 40 9 (.slice (some ⟨rr, 0, none⟩) 4 4)).run Tryz.prog w' = .ok (.string S1) w' := HC1.out rr w' hrow
      exact plan_val (.string S1) w' (by go_simp) ⟨rfl, hS.calm 8 (by kernel_rfl), fun _ _ h => h⟩
    · go_light
      intro listed a' w' hs hS hun hdep
      have e46 : a'.eval (.tmp 46) = .string (M) := hs.eval 0 _ 46 rfl (hdep ⟨0, .data⟩ (by simp) rfl) rfl
      have e54 : a'.eval (.tmp 54) = .string (S1) := hs.eval 8 _ 54 rfl (hdep ⟨8, .data⟩ (by simp) rfl) rfl
      have hcn := BigFrame.eval_const a'
      have hfn := BigFrame.eval_func a'
      generalize a'.eval = ev at *
      exact plan_val (.string (M ++ S1)) w' (by go_simp) ⟨rfl, hS.calm 9 (by kernel_rfl), fun _ _ h => h⟩
    · go_light
      intro listed a' w' hs hS hun hdep
      have e1 : a'.eval (.tmp 1) = .pointer (some ⟨N, 0, none⟩) := (hs.was' 1 (by kernel_rfl)).trans (rfl)
      have hcn := BigFrame.eval_const a'
      have hfn := BigFrame.eval_func a'
      generalize a'.eval = ev at *
      exact plan_val (.pointer (some ⟨N, 7, none⟩)) w' (by go_simp) ⟨rfl, hS.calm 10 (by kernel_rfl), fun _ _ h => h⟩
    · go_light
      intro listed a' w' hs hS hun hdep
      have e56 : a'.eval (.tmp 56) = .pointer (some ⟨N, 7, none⟩) := hs.eval 10 _ 56 rfl (hdep ⟨10, .data⟩ (by simp) rfl) rfl
      have hcn := BigFrame.eval_const a'
      have hfn := BigFrame.eval_func a'
      generalize a'.eval = ev at *
      obtain ⟨k0, k1, k2, k3, k4, k5, k6, k7, k8, k9, k10⟩ := Hc.out _ hS.pk
      exact plan_val (.int .u32 (src : Nat)) w' (by go_simp) ⟨rfl, hS.calm 11 (by kernel_rfl), fun _ _ h => h⟩
    · go_light
      intro listed a' w' hs hS hun hdep
      have e57 : a'.eval (.tmp 57) = .int .u32 (src : Nat) := hs.eval 11 _ 57 rfl (hdep ⟨11, .data⟩ (by simp) rfl) rfl
      have hcn := BigFrame.eval_const a'
      have hfn := BigFrame.eval_func a'
      generalize a'.eval = ev at *
      refine plan_call 28 #[.int .u32 (src : Nat)] w' (by go_simp) ?_
      refine (H4.out w').mono ?_
      rintro e w'' ⟨rfl, hb⟩
      exact ⟨_, rfl, rfl, hS.below hbase hb 12 (by kernel_rfl), VS.keepB hb⟩
    · go_light
      intro listed a' w' hs hS hun hdep
      have e55 : a'.eval (.tmp 55) = .string (M ++ S1) := hs.eval 9 _ 55 rfl (hdep ⟨9, .data⟩ (by simp) rfl) rfl
      have e58 : a'.eval (.tmp 58) = .string (T4) := hs.eval 12 _ 58 rfl (hdep ⟨12, .data⟩ (by simp) rfl) rfl
      have hcn := BigFrame.eval_const a'
      have hfn := BigFrame.eval_func a'
      generalize a'.eval = ev at *
      exact plan_val (.string (M ++ S1 ++ T4)) w' (by go_simp) ⟨rfl, hS.calm 13 (by kernel_rfl), fun _ _ h => h⟩
    · go_light
      intro listed a' w' hs hS hun hdep
      have e1 : a'.eval (.tmp 1) = .pointer (some ⟨N, 0, none⟩) := (hs.was' 1 (by kernel_rfl)).trans (rfl)
      have hcn := BigFrame.eval_const a'
      have hfn := BigFrame.eval_func a'
      generalize a'.eval = ev at *
      exact plan_val (.pointer (some ⟨N, 8, none⟩)) w' (by go_simp) ⟨rfl, hS.calm 14 (by kernel_rfl), fun _ _ h => h⟩
    · go_light
      intro listed a' w' hs hS hun hdep
      have e60 : a'.eval (.tmp 60) = .pointer (some ⟨N, 8, none⟩) := hs.eval 14 _ 60 rfl (hdep ⟨14, .data⟩ (by simp) rfl) rfl
      have hcn := BigFrame.eval_const a'
      have hfn := BigFrame.eval_func a'
      generalize a'.eval = ev at *
      obtain ⟨k0, k1, k2, k3, k4, k5, k6, k7, k8, k9, k10⟩ := Hc.out _ hS.pk
      exact plan_val (.int .u32 (dst : Nat)) w' (by go_simp) ⟨rfl, hS.calm 15 (by kernel_rfl), fun _ _ h => h⟩
    · go_light
      intro listed a' w' hs hS hun hdep
      have e61 : a'.eval (.tmp 61) = .int .u32 (dst : Nat) := hs.eval 15 _ 61 rfl (hdep ⟨15, .data⟩ (by simp) rfl) rfl
      have hcn := BigFrame.eval_const a'
      have hfn := BigFrame.eval_func a'
      generalize a'.eval = ev at *
      refine plan_call 28 #[.int .u32 (dst : Nat)] w' (by go_simp) ?_
      refine (H5.out w').mono ?_
      rintro e w'' ⟨rfl, hb⟩
      exact ⟨_, rfl, rfl, hS.below hbase hb 16 (by kernel_rfl), VS.keepB hb⟩
    · go_light
      intro listed a' w' hs hS hun hdep
      have e59 : a'.eval (.tmp 59) = .string (M ++ S1 ++ T4) := hs.eval 13 _ 59 rfl (hdep ⟨13, .data⟩ (by simp) rfl) rfl
      have e62 : a'.eval (.tmp 62) = .string (T5) := hs.eval 16 _ 62 rfl (hdep ⟨16, .data⟩ (by simp) rfl) rfl
      have hcn := BigFrame.eval_const a'
      have hfn := BigFrame.eval_func a'
      generalize a'.eval = ev at *
      exact plan_val (.string (M ++ S1 ++ T4 ++ T5)) w' (by go_simp) ⟨rfl, hS.calm 17 (by kernel_rfl), fun _ _ h => h⟩
    · go_light
      intro listed a' w' hs hS hun hdep
      have e3 : a'.eval (.tmp 3) = .string (E) := (hs.was' 3 (by kernel_rfl)).trans (rfl)
      have hcn := BigFrame.eval_const a'
      have hfn := BigFrame.eval_func a'
      generalize a'.eval = ev at *
      exact plan_val (.string (E)) w' (by go_simp) ⟨rfl, hS.calm 18 (by kernel_rfl), fun _ _ h => h⟩
    · go_light
      intro listed a' w' hs hS hun hdep
      have e63 : a'.eval (.tmp 63) = .string (M ++ S1 ++ T4 ++ T5) := hs.eval 17 _ 63 rfl (hdep ⟨17, .data⟩ (by simp) rfl) rfl
      have e64 : a'.eval (.tmp 64) = .string (E) := hs.eval 18 _ 64 rfl (hdep ⟨18, .data⟩ (by simp) rfl) rfl
      have hcn := BigFrame.eval_const a'
      have hfn := BigFrame.eval_func a'
      generalize a'.eval = ev at *
      exact plan_val (.string (M ++ S1 ++ T4 ++ T5 ++ E)) w' (by go_simp) ⟨rfl, hS.calm 19 (by kernel_rfl), fun _ _ h => h⟩
    · go_light
      intro listed a' w' hs hS hun hdep
      have e65 : a'.eval (.tmp 65) = .string (M ++ S1 ++ T4 ++ T5 ++ E) := hs.eval 19 _ 65 rfl (hdep ⟨19, .data⟩ (by simp) rfl) rfl
      have hcn := BigFrame.eval_const a'
      have hfn := BigFrame.eval_func a'
      generalize a'.eval = ev at *
      exact plan_val (.string (M ++ S1 ++ T4 ++ T5 ++ E)) w' (by go_simp) ⟨rfl, hS.calm 20 (by kernel_rfl), fun _ _ h => h⟩
    intro vs listed w8 hlen hV hall hS
    match vs, hlen, hV with
    | [v8_0, v8_1, v8_2, v8_3, v8_4, v8_5, v8_6, v8_7, v8_8, v8_9, v8_10, v8_11, v8_12, v8_13, v8_14, v8_15, v8_16, v8_17, v8_18, v8_19, v8_20], _, hV =>
      have q0 : v8_0 = .string (M) := hV 0 _ rfl
      have q1 : v8_1 = .pointer (some ⟨N, 5, none⟩) := hV 1 _ rfl
      have q2 : v8_2 = .int .i64 (ttl : Nat) := hV 2 _ rfl
      have q3 : v8_3 = .int .u8 (ttl : Nat) := hV 3 _ rfl
      have q4 : v8_4 = .pointer (some ⟨N, 6, none⟩) := hV 4 _ rfl
      have q5 : v8_5 = .int .i64 (proto : Nat) := hV 5 _ rfl
      have q6 : v8_6 = .int .u8 (proto : Nat) := hV 6 _ rfl
      obtain ⟨r8_7, _, q7, _⟩ : (Spec.row #[.int .u8 (ttl : Nat), .int .u8 (proto : Nat), .int .u8 0, .int .u8 0] 5).ok N v8_7 w8 := hV 7 _ rfl
      have q8 : v8_8 = .string (S1) := hV 8 _ rfl
      have q9 : v8_9 = .string (M ++ S1) := hV 9 _ rfl
      have q10 : v8_10 = .pointer (some ⟨N, 7, none⟩) := hV 10 _ rfl
      have q11 : v8_11 = .int .u32 (src : Nat) := hV 11 _ rfl
      have q12 : v8_12 = .string (T4) := hV 12 _ rfl
      have q13 : v8_13 = .string (M ++ S1 ++ T4) := hV 13 _ rfl
      have q14 : v8_14 = .pointer (some ⟨N, 8, none⟩) := hV 14 _ rfl
      have q15 : v8_15 = .int .u32 (dst : Nat) := hV 15 _ rfl
      have q16 : v8_16 = .string (T5) := hV 16 _ rfl
      have q17 : v8_17 = .string (M ++ S1 ++ T4 ++ T5) := hV 17 _ rfl
      have q18 : v8_18 = .string (E) := hV 18 _ rfl
      have q19 : v8_19 = .string (M ++ S1 ++ T4 ++ T5 ++ E) := hV 19 _ rfl
      have q20 : v8_20 = .string (M ++ S1 ++ T4 ++ T5 ++ E) := hV 20 _ rfl
      have hbel8 := hS.bel
      have hpk8 := hS.pk
      subst q0 q1 q2 q3 q4 q5 q6 q7 q8 q9 q10 q11 q12 q13 q14 q15 q16 q17 q18 q19 q20
      clear hV hall hS
      simp only [lays, Act.put, List.setIfInBounds_toArray, List.set_cons_zero, List.set_cons_succ]
      clear H4 H5 HC1 hbel7 hpk7 z45 z55 z59 z63 s1 t4 t5 c3 c4
      generalize hHD : M ++ S1 ++ T4 ++ T5 ++ E = HD at *
      have HHD := Lib.hid hHD
      clear hHD
      have hPU := HPz.out (csum HD 10)
      clear HPz
      generalize hPUe : swap HD 10 (csum HD 10) = PU at *
      have HPU := Lib.hid hPUe
      clear hPUe
      have hb70 : (9223372036854775807 < 20 + z + n) = False := by simp; omega
      go_upto_region 9 with fail
      refine region_plan' (VS N [.val (.string (HD)), .val (.string (PU)), .val (.pointer (some ⟨N, 10, none⟩)), .val (.string (d)), .val (.string (PU ++ d)), .val (.string (PU ++ d))]) (PlS N w N #[.int .i64 (tos : Nat), .int .i64 (id : Nat), .bool df, .bool mf, .int .i64 (off : Nat), .int .i64 (ttl : Nat), .int .i64 (proto : Nat), .int .u32 (src : Nat), .int .u32 (dst : Nat), .slice a l.length cap, .string d] 25) (by kernel_rfl) (by kernel_rfl) ⟨hbel8.drew, hpk8⟩ ⟨?_, ?_, ?_, ?_, ?_, ?_, trivial⟩ ?_
      · go_light
        intro listed a' w' hs hS hun hdep
        have e5 : a'.eval (.tmp 5) = .string (HD) := (hs.was' 5 (by kernel_rfl)).trans (rfl)
        have hcn := BigFrame.eval_const a'
        have hfn := BigFrame.eval_func a'
        generalize a'.eval = ev at *
        exact plan_val (.string (HD)) w' (by go_simp) ⟨rfl, hS.calm 0 (by kernel_rfl), fun _ _ h => h⟩
      · go_light
        intro listed a' w' hs hS hun hdep
        have e66 : a'.eval (.tmp 66) = .string (HD) := hs.eval 0 _ 66 rfl (hdep ⟨0, .data⟩ (by simp) rfl) rfl
        have hcn := BigFrame.eval_const a'
        have hfn := BigFrame.eval_func a'
        generalize a'.eval = ev at *
        refine plan_call 29 #[.string HD, .int .i64 10] w' (by go_simp) ?_
        refine (HP.out w').mono ?_
        rintro e w'' ⟨rfl, hb⟩
        exact ⟨_, rfl, rfl, hS.below hbase hb 1 (by kernel_rfl), VS.keepB hb⟩
      · go_light
        intro listed a' w' hs hS hun hdep
        have e1 : a'.eval (.tmp 1) = .pointer (some ⟨N, 0, none⟩) := (hs.was' 1 (by kernel_rfl)).trans (rfl)
        have hcn := BigFrame.eval_const a'
        have hfn := BigFrame.eval_func a'
        generalize a'.eval = ev at *
        exact plan_val (.pointer (some ⟨N, 10, none⟩)) w' (by go_simp) ⟨rfl, hS.calm 2 (by kernel_rfl), fun _ _ h => h⟩
      · go_light
        intro listed a' w' hs hS hun hdep
        have e68 : a'.eval (.tmp 68) = .pointer (some ⟨N, 10, none⟩) := hs.eval 2 _ 68 rfl (hdep ⟨2, .data⟩ (by simp) rfl) rfl
        have hcn := BigFrame.eval_const a'
        have hfn := BigFrame.eval_func a'
        generalize a'.eval = ev at *
        obtain ⟨k0, k1, k2, k3, k4, k5, k6, k7, k8, k9, k10⟩ := Hc.out _ hS.pk
        exact plan_val (.string (d)) w' (by go_simp) ⟨rfl, hS.calm 3 (by kernel_rfl), fun _ _ h => h⟩
      · go_light
        intro listed a' w' hs hS hun hdep
        have e67 : a'.eval (.tmp 67) = .string (PU) := hs.eval 1 _ 67 rfl (hdep ⟨1, .data⟩ (by simp) rfl) rfl
        have e69 : a'.eval (.tmp 69) = .string (d) := hs.eval 3 _ 69 rfl (hdep ⟨3, .data⟩ (by simp) rfl) rfl
        have hcn := BigFrame.eval_const a'
        have hfn := BigFrame.eval_func a'
        generalize a'.eval = ev at *
        exact plan_val (.string (PU ++ d)) w' (by go_simp) ⟨rfl, hS.calm 4 (by kernel_rfl), fun _ _ h => h⟩
      · go_light
        intro listed a' w' hs hS hun hdep
        have e70 : a'.eval (.tmp 70) = .string (PU ++ d) := hs.eval 4 _ 70 rfl (hdep ⟨4, .data⟩ (by simp) rfl) rfl
        have hcn := BigFrame.eval_const a'
        have hfn := BigFrame.eval_func a'
        generalize a'.eval = ev at *
        exact plan_val (.string (PU ++ d)) w' (by go_simp) ⟨rfl, hS.calm 5 (by kernel_rfl), fun _ _ h => h⟩
      intro vs listed w9 hlen hV hall hS
      match vs, hlen, hV with
      | [v9_0, v9_1, v9_2, v9_3, v9_4, v9_5], _, hV =>
        have q0 : v9_0 = .string (HD) := hV 0 _ rfl
        have q1 : v9_1 = .string (PU) := hV 1 _ rfl
        have q2 : v9_2 = .pointer (some ⟨N, 10, none⟩) := hV 2 _ rfl
        have q3 : v9_3 = .string (d) := hV 3 _ rfl
        have q4 : v9_4 = .string (PU ++ d) := hV 4 _ rfl
        have q5 : v9_5 = .string (PU ++ d) := hV 5 _ rfl
        have hbel9 := hS.bel
        have hpk9 := hS.pk
        subst q0 q1 q2 q3 q4 q5
        clear hV hall hS
        simp only [lays, Act.put, List.setIfInBounds_toArray, List.set_cons_zero, List.set_cons_succ]
        go_wp2
        go_ret
        exact ⟨by rw [HM.out, HHD.out, HPU.out]; rfl, by rw [hN]; exact hbel9⟩
#print axioms refenc5_any
end Go.Proofs.YtncnildpbccpaaaGreatDoor

namespace Go.Proofs.YtncnildpbccpaaaGreatDoor
open Go.RowKit

theorem hen_all (tos id : Int) (df mf : Bool) (off ttl proto src dst : Int) (d : ByteArray) (a : Option Addr) (cap : Nat) (l : List Opt) (w : World) (h : OptRow w a l) (hl : l.length ≤ maxLen) (hd : ∀ o ∈ l, o.data.size ≤ maxLen) (hx : d.size ≤ maxLen) (hs : 0 ≤ src ∧ src < 4294967296) (ht : 0 ≤ dst ∧ dst < 4294967296) :
    Calls Tryz.prog 3 #[pk tos id df mf off ttl proto src dst (.slice a l.length cap) d] w fun e w' => e = .returned (.bool true) ∧ Below w.heap.size w w' := by
  cases hg : H.great l d.size with
  | true => exact hen_great tos id df mf off ttl proto src dst a cap l d w h hl hd hx hg
  | false =>
    obtain ⟨g1, g2, g3⟩ := H.great_no _ _ hg
    cases hr : H.right tos id off ttl proto l d.size with
    | false =>
      have HE := Lib.hid fun w' h' => henc_bad tos id df mf off ttl proto src dst a cap l d w' h' g1 g2 (by omega) hr
      cases ho : (off == 0) with
      | true => exact hen_no0 tos id df mf off ttl proto src dst a cap l d w h hl hd hx hg hr ho ⟨#[]⟩ 0 rfl HE rfl
      | false => exact hen_no1 tos id df mf off ttl proto src dst a cap l d w h hl hd hx hg hr ho ⟨#[]⟩ 0 rfl HE rfl
    | true =>
      obtain ⟨p0, p1, p4, p5, p6⟩ := H.right_int _ _ _ _ _ _ _ hr
      obtain ⟨n0, rfl⟩ := Int.eq_ofNat_of_zero_le p0
      obtain ⟨n1, rfl⟩ := Int.eq_ofNat_of_zero_le p1
      obtain ⟨n4, rfl⟩ := Int.eq_ofNat_of_zero_le p4
      obtain ⟨n5, rfl⟩ := Int.eq_ofNat_of_zero_le p5
      obtain ⟨n6, rfl⟩ := Int.eq_ofNat_of_zero_le p6
      obtain ⟨n7, rfl⟩ := Int.eq_ofNat_of_zero_le hs.1
      obtain ⟨n8, rfl⟩ := Int.eq_ofNat_of_zero_le ht.1
      have hn := H.right_nat n0 n1 n4 n5 n6 l d.size (by omega) hr
      have HE := Lib.hid fun w' h' => henc_ok n0 n1 df mf n4 n5 n6 n7 n8 a cap l d w' h' g1 g2 (by omega) (by omega) (by omega) hr
      have HF := Lib.hid fun w' h' => refenc5_any n0 n1 df mf n4 n5 n6 n7 n8 a cap l d w' h' g1 (by omega) (by omega) hn
      have HZ := Lib.hid fun w' h' => hsize_any n0 n1 df mf n4 n5 n6 n7 n8 a cap l d w' h' g1 g2 (by omega)
      have hz : (H.enc n0 n1 df mf n4 n5 n6 n7 n8 l d).size = 20 + O.size l + d.size := by
        have h := congrArg List.length (H.enc_lst n0 n1 df mf n4 n5 n6 n7 n8 l d)
        rw [H.lst_length, Array.length_toList, List.length_append, O.enc_length, Array.length_toList] at h
        have h' : (H.enc n0 n1 df mf n4 n5 n6 n7 n8 l d).size = 20 + (O.size l + d.size) := h
        omega
      cases ho : ((n4 : Int) == 0) with
      | true => exact hen_yes0 _ _ df mf _ _ _ _ _ a cap l d w h hl hd hx hg hr ho _ _ hz HE HF HZ
      | false => exact hen_yes1 _ _ df mf _ _ _ _ _ a cap l d w h hl hd hx hg hr ho _ _ hz HE HF HZ
#print axioms hen_all
end Go.Proofs.YtncnildpbccpaaaGreatDoor

