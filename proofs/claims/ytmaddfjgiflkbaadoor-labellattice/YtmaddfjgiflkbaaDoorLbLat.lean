/- The walk of LabelLattice. -/
import Derived.Test.YtmaddfjgiflkbaaDoorLbAwake
import Derived.Test.YtmaddfjgiflkbaaDoorCtGen2
namespace Go.Proofs.YtmaddfjgiflkbaaDoor
set_option maxRecDepth 100000
open Go.RowKit
set_option maxRecDepth 100000
set_option linter.unusedVariables false
namespace LbLat
theorem vs_cons {n : Nat} (vs : List Value) (h : vs.length = n + 1) : ∃ v r, vs = v :: r ∧ r.length = n := by
  cases vs with
  | nil => simp at h
  | cons v r => exact ⟨v, r, rfl, by simpa using h⟩
theorem vs_10 (vs : List Value) (h : vs.length = 10) : ∃ v0 v1 v2 v3 v4 v5 v6 v7 v8 v9, vs = [v0, v1, v2, v3, v4, v5, v6, v7, v8, v9] := by
  obtain ⟨v0, r0, rfl, h0⟩ := vs_cons vs h
  obtain ⟨v1, r1, rfl, h1⟩ := vs_cons r0 h0
  obtain ⟨v2, r2, rfl, h2⟩ := vs_cons r1 h1
  obtain ⟨v3, r3, rfl, h3⟩ := vs_cons r2 h2
  obtain ⟨v4, r4, rfl, h4⟩ := vs_cons r3 h3
  obtain ⟨v5, r5, rfl, h5⟩ := vs_cons r4 h4
  obtain ⟨v6, r6, rfl, h6⟩ := vs_cons r5 h5
  obtain ⟨v7, r7, rfl, h7⟩ := vs_cons r6 h6
  obtain ⟨v8, r8, rfl, h8⟩ := vs_cons r7 h7
  obtain ⟨v9, r9, rfl, h9⟩ := vs_cons r8 h8
  obtain rfl := List.eq_nil_of_length_eq_zero h9
  exact ⟨v0, v1, v2, v3, v4, v5, v6, v7, v8, v9, rfl⟩
theorem vs_26 (vs : List Value) (h : vs.length = 26) : ∃ v0 v1 v2 v3 v4 v5 v6 v7 v8 v9 v10 v11 v12 v13 v14 v15 v16 v17 v18 v19 v20 v21 v22 v23 v24 v25, vs = [v0, v1, v2, v3, v4, v5, v6, v7, v8, v9, v10, v11, v12, v13, v14, v15, v16, v17, v18, v19, v20, v21, v22, v23, v24, v25] := by
  obtain ⟨v0, r0, rfl, h0⟩ := vs_cons vs h
  obtain ⟨v1, r1, rfl, h1⟩ := vs_cons r0 h0
  obtain ⟨v2, r2, rfl, h2⟩ := vs_cons r1 h1
  obtain ⟨v3, r3, rfl, h3⟩ := vs_cons r2 h2
  obtain ⟨v4, r4, rfl, h4⟩ := vs_cons r3 h3
  obtain ⟨v5, r5, rfl, h5⟩ := vs_cons r4 h4
  obtain ⟨v6, r6, rfl, h6⟩ := vs_cons r5 h5
  obtain ⟨v7, r7, rfl, h7⟩ := vs_cons r6 h6
  obtain ⟨v8, r8, rfl, h8⟩ := vs_cons r7 h7
  obtain ⟨v9, r9, rfl, h9⟩ := vs_cons r8 h8
  obtain ⟨v10, r10, rfl, h10⟩ := vs_cons r9 h9
  obtain ⟨v11, r11, rfl, h11⟩ := vs_cons r10 h10
  obtain ⟨v12, r12, rfl, h12⟩ := vs_cons r11 h11
  obtain ⟨v13, r13, rfl, h13⟩ := vs_cons r12 h12
  obtain ⟨v14, r14, rfl, h14⟩ := vs_cons r13 h13
  obtain ⟨v15, r15, rfl, h15⟩ := vs_cons r14 h14
  obtain ⟨v16, r16, rfl, h16⟩ := vs_cons r15 h15
  obtain ⟨v17, r17, rfl, h17⟩ := vs_cons r16 h16
  obtain ⟨v18, r18, rfl, h18⟩ := vs_cons r17 h17
  obtain ⟨v19, r19, rfl, h19⟩ := vs_cons r18 h18
  obtain ⟨v20, r20, rfl, h20⟩ := vs_cons r19 h19
  obtain ⟨v21, r21, rfl, h21⟩ := vs_cons r20 h20
  obtain ⟨v22, r22, rfl, h22⟩ := vs_cons r21 h21
  obtain ⟨v23, r23, rfl, h23⟩ := vs_cons r22 h22
  obtain ⟨v24, r24, rfl, h24⟩ := vs_cons r23 h23
  obtain ⟨v25, r25, rfl, h25⟩ := vs_cons r24 h24
  obtain rfl := List.eq_nil_of_length_eq_zero h25
  exact ⟨v0, v1, v2, v3, v4, v5, v6, v7, v8, v9, v10, v11, v12, v13, v14, v15, v16, v17, v18, v19, v20, v21, v22, v23, v24, v25, rfl⟩
theorem vs_48 (vs : List Value) (h : vs.length = 48) : ∃ v0 v1 v2 v3 v4 v5 v6 v7 v8 v9 v10 v11 v12 v13 v14 v15 v16 v17 v18 v19 v20 v21 v22 v23 v24 v25 v26 v27 v28 v29 v30 v31 v32 v33 v34 v35 v36 v37 v38 v39 v40 v41 v42 v43 v44 v45 v46 v47, vs = [v0, v1, v2, v3, v4, v5, v6, v7, v8, v9, v10, v11, v12, v13, v14, v15, v16, v17, v18, v19, v20, v21, v22, v23, v24, v25, v26, v27, v28, v29, v30, v31, v32, v33, v34, v35, v36, v37, v38, v39, v40, v41, v42, v43, v44, v45, v46, v47] := by
  obtain ⟨v0, r0, rfl, h0⟩ := vs_cons vs h
  obtain ⟨v1, r1, rfl, h1⟩ := vs_cons r0 h0
  obtain ⟨v2, r2, rfl, h2⟩ := vs_cons r1 h1
  obtain ⟨v3, r3, rfl, h3⟩ := vs_cons r2 h2
  obtain ⟨v4, r4, rfl, h4⟩ := vs_cons r3 h3
  obtain ⟨v5, r5, rfl, h5⟩ := vs_cons r4 h4
  obtain ⟨v6, r6, rfl, h6⟩ := vs_cons r5 h5
  obtain ⟨v7, r7, rfl, h7⟩ := vs_cons r6 h6
  obtain ⟨v8, r8, rfl, h8⟩ := vs_cons r7 h7
  obtain ⟨v9, r9, rfl, h9⟩ := vs_cons r8 h8
  obtain ⟨v10, r10, rfl, h10⟩ := vs_cons r9 h9
  obtain ⟨v11, r11, rfl, h11⟩ := vs_cons r10 h10
  obtain ⟨v12, r12, rfl, h12⟩ := vs_cons r11 h11
  obtain ⟨v13, r13, rfl, h13⟩ := vs_cons r12 h12
  obtain ⟨v14, r14, rfl, h14⟩ := vs_cons r13 h13
  obtain ⟨v15, r15, rfl, h15⟩ := vs_cons r14 h14
  obtain ⟨v16, r16, rfl, h16⟩ := vs_cons r15 h15
  obtain ⟨v17, r17, rfl, h17⟩ := vs_cons r16 h16
  obtain ⟨v18, r18, rfl, h18⟩ := vs_cons r17 h17
  obtain ⟨v19, r19, rfl, h19⟩ := vs_cons r18 h18
  obtain ⟨v20, r20, rfl, h20⟩ := vs_cons r19 h19
  obtain ⟨v21, r21, rfl, h21⟩ := vs_cons r20 h20
  obtain ⟨v22, r22, rfl, h22⟩ := vs_cons r21 h21
  obtain ⟨v23, r23, rfl, h23⟩ := vs_cons r22 h22
  obtain ⟨v24, r24, rfl, h24⟩ := vs_cons r23 h23
  obtain ⟨v25, r25, rfl, h25⟩ := vs_cons r24 h24
  obtain ⟨v26, r26, rfl, h26⟩ := vs_cons r25 h25
  obtain ⟨v27, r27, rfl, h27⟩ := vs_cons r26 h26
  obtain ⟨v28, r28, rfl, h28⟩ := vs_cons r27 h27
  obtain ⟨v29, r29, rfl, h29⟩ := vs_cons r28 h28
  obtain ⟨v30, r30, rfl, h30⟩ := vs_cons r29 h29
  obtain ⟨v31, r31, rfl, h31⟩ := vs_cons r30 h30
  obtain ⟨v32, r32, rfl, h32⟩ := vs_cons r31 h31
  obtain ⟨v33, r33, rfl, h33⟩ := vs_cons r32 h32
  obtain ⟨v34, r34, rfl, h34⟩ := vs_cons r33 h33
  obtain ⟨v35, r35, rfl, h35⟩ := vs_cons r34 h34
  obtain ⟨v36, r36, rfl, h36⟩ := vs_cons r35 h35
  obtain ⟨v37, r37, rfl, h37⟩ := vs_cons r36 h36
  obtain ⟨v38, r38, rfl, h38⟩ := vs_cons r37 h37
  obtain ⟨v39, r39, rfl, h39⟩ := vs_cons r38 h38
  obtain ⟨v40, r40, rfl, h40⟩ := vs_cons r39 h39
  obtain ⟨v41, r41, rfl, h41⟩ := vs_cons r40 h40
  obtain ⟨v42, r42, rfl, h42⟩ := vs_cons r41 h41
  obtain ⟨v43, r43, rfl, h43⟩ := vs_cons r42 h42
  obtain ⟨v44, r44, rfl, h44⟩ := vs_cons r43 h43
  obtain ⟨v45, r45, rfl, h45⟩ := vs_cons r44 h44
  obtain ⟨v46, r46, rfl, h46⟩ := vs_cons r45 h45
  obtain ⟨v47, r47, rfl, h47⟩ := vs_cons r46 h46
  obtain rfl := List.eq_nil_of_length_eq_zero h47
  exact ⟨v0, v1, v2, v3, v4, v5, v6, v7, v8, v9, v10, v11, v12, v13, v14, v15, v16, v17, v18, v19, v20, v21, v22, v23, v24, v25, v26, v27, v28, v29, v30, v31, v32, v33, v34, v35, v36, v37, v38, v39, v40, v41, v42, v43, v44, v45, v46, v47, rfl⟩

theorem sub_or (x y n : Nat) : (decide (x &&& n = x) && decide (y &&& n = y)) = decide ((x ||| y) &&& n = x ||| y) := by
  rw [Bool.eq_iff_iff, Bool.and_eq_true, decide_eq_true_eq, decide_eq_true_eq, decide_eq_true_eq]
  constructor
  · rintro ⟨h1, h2⟩
    rw [Nat.and_or_distrib_right, h1, h2]
  · intro h
    have key : ∀ j, ((x.testBit j || y.testBit j) && n.testBit j) = (x.testBit j || y.testBit j) := fun j => by
      have := congrArg (fun q => q.testBit j) h
      simpa only [Nat.testBit_and, Nat.testBit_or] using this
    constructor <;> (apply Nat.eq_of_testBit_eq; intro j; rw [Nat.testBit_and]; have := key j; cases h1 : x.testBit j <;> cases h2 : y.testBit j <;> cases h3 : n.testBit j <;> simp_all)
theorem sub_and (x y n : Nat) : (decide (n &&& x = n) && decide (n &&& y = n)) = decide (n &&& (x &&& y) = n) := by
  rw [Bool.eq_iff_iff, Bool.and_eq_true, decide_eq_true_eq, decide_eq_true_eq, decide_eq_true_eq]
  constructor
  · rintro ⟨h1, h2⟩
    rw [← Nat.and_assoc, h1, h2]
  · intro h
    have key : ∀ j, (n.testBit j && (x.testBit j && y.testBit j)) = n.testBit j := fun j => by
      have := congrArg (fun q => q.testBit j) h
      simpa only [Nat.testBit_and] using this
    constructor <;> (apply Nat.eq_of_testBit_eq; intro j; rw [Nat.testBit_and]; have := key j; cases h1 : x.testBit j <;> cases h2 : y.testBit j <;> cases h3 : n.testBit j <;> simp_all)
theorem dom_or (zc : Int) (nc : Nat) (za : Int) (na : Nat) (zb : Int) (nb : Nat) : L.dom zc nc (max za zb) (na ||| nb) = (L.dom zc nc za na && L.dom zc nc zb nb) := by
  unfold L.dom
  rw [← sub_or]
  have : decide (max za zb ≤ zc) = (decide (za ≤ zc) && decide (zb ≤ zc)) := by rw [← Bool.decide_and, decide_eq_decide]; omega
  rw [this]
  cases decide (za ≤ zc) <;> cases decide (zb ≤ zc) <;> simp
theorem dom_and (zc : Int) (nc : Nat) (za : Int) (na : Nat) (zb : Int) (nb : Nat) : L.dom (min za zb) (na &&& nb) zc nc = (L.dom za na zc nc && L.dom zb nb zc nc) := by
  unfold L.dom
  rw [← sub_and]
  have : decide (zc ≤ min za zb) = (decide (zc ≤ za) && decide (zc ≤ zb)) := by rw [← Bool.decide_and, decide_eq_decide]; omega
  rw [this]
  cases decide (zc ≤ za) <;> cases decide (zc ≤ zb) <;> simp
theorem dom_self (z : Int) (n : Nat) : L.dom z n z n = true := by unfold L.dom; rw [decide_eq_true (Int.le_refl z), decide_eq_true (Nat.and_self n)]; rfl
theorem dom_orl (za : Int) (na : Nat) (zb : Int) (nb : Nat) : L.dom (max za zb) (na ||| nb) za na = true ∧ L.dom (max za zb) (na ||| nb) zb nb = true := by
  have := dom_or (max za zb) (na ||| nb) za na zb nb
  rw [dom_self] at this
  exact Bool.and_eq_true_iff.1 this.symm
theorem dom_andl (za : Int) (na : Nat) (zb : Int) (nb : Nat) : L.dom za na (min za zb) (na &&& nb) = true ∧ L.dom zb nb (min za zb) (na &&& nb) = true := by
  have := dom_and (min za zb) (na &&& nb) za na zb nb
  rw [dom_self] at this
  exact Bool.and_eq_true_iff.1 this.symm

set_option maxHeartbeats 16000000 in
theorem lattice_all (za : Int) (na : Nat) (zb : Int) (nb : Nat) (zc : Int) (nc : Nat) (w : World) (hna : na < 2 ^ 240) (hnb : nb < 2 ^ 240) (hnc : nc < 2 ^ 240) (Ld : LaidF w) :
    Calls Tryd.prog 6 #[.agg (L.lv za na), .agg (L.lv zb nb), .agg (L.lv zc nc)] w fun e w' => e = .returned (.bool true) ∧ Below w.heap.size w w' := by
  obtain ⟨zj, hzj⟩ : ∃ x, max za zb = x := ⟨_, rfl⟩
  obtain ⟨nj, hnj⟩ : ∃ x, na ||| nb = x := ⟨_, rfl⟩
  obtain ⟨zm, hzm⟩ : ∃ x, min za zb = x := ⟨_, rfl⟩
  obtain ⟨nm, hnm⟩ : ∃ x, na &&& nb = x := ⟨_, rfl⟩
  have hj := C.or_lt hna hnb
  have hm := C.and_lt nb hna
  have hj3 := C.or_lt hj hnc
  have hm3 := C.and_lt nc hm
  have d1 := dom_orl za na zb nb
  have d2 := dom_andl za na zb nb
  have d3 := dom_or zc nc za na zb nb
  have d4 := dom_and zc nc za na zb nb
  have HJ0 := Lib.hid (fun (r : Nat) (w' : World) (h : w'.heap[r]? = some (.cells (labsX [(zb, nb)]) 39 (0, 0))) => LJoin_any za na (some ⟨r, 0, none⟩) 1 [(zb, nb)] w' (LRow.of_block h) (by simp))
  have HM0 := Lib.hid (fun (r : Nat) (w' : World) (h : w'.heap[r]? = some (.cells (labsX [(zb, nb)]) 39 (0, 0))) => LMeet_any za na (some ⟨r, 0, none⟩) 1 [(zb, nb)] w' (LRow.of_block h) (by simp))
  have H69 := Lib.hid (fun (r : Nat) (w' : World) (h : w'.heap[r]? = some (.cells (labsX [(zb, nb), (zc, nc)]) 39 (0, 0))) => LJoin_any za na (some ⟨r, 0, none⟩) 2 [(zb, nb), (zc, nc)] w' (LRow.of_block h) (by simp))
  have H80 := Lib.hid (fun (r : Nat) (w' : World) (h : w'.heap[r]? = some (.cells (labsX [(zb, nb), (zc, nc)]) 39 (0, 0))) => LMeet_any za na (some ⟨r, 0, none⟩) 2 [(zb, nb), (zc, nc)] w' (LRow.of_block h) (by simp))
  have H89 := Lib.hid (fun (w' : World) => LJoin_any za na none 0 [] w' (LRow.none w' none) (by simp))
  simp only [L.joinZ, L.joinN, L.meetZ, L.meetN, List.foldl_cons, List.foldl_nil, List.length_nil] at HJ0 HM0 H69 H80 H89
  have H73 := Lib.hid (fun (r : Nat) (w' : World) (h : w'.heap[r]? = some (.cells (labsX [(zj, nj)]) 39 (0, 0))) => LJoin_any zc nc (some ⟨r, 0, none⟩) 1 [(zj, nj)] w' (LRow.of_block h) (by simp))
  have H84 := Lib.hid (fun (r : Nat) (w' : World) (h : w'.heap[r]? = some (.cells (labsX [(zm, nm)]) 39 (0, 0))) => LMeet_any zc nc (some ⟨r, 0, none⟩) 1 [(zm, nm)] w' (LRow.of_block h) (by simp))
  have H97 := Lib.hid (fun (r : Nat) (w' : World) (h : w'.heap[r]? = some (.cells (labsX [(zj, nj)]) 39 (0, 0))) => LMeet_any za na (some ⟨r, 0, none⟩) 1 [(zj, nj)] w' (LRow.of_block h) (by simp))
  have H105 := Lib.hid (fun (r : Nat) (w' : World) (h : w'.heap[r]? = some (.cells (labsX [(zm, nm)]) 39 (0, 0))) => LJoin_any za na (some ⟨r, 0, none⟩) 1 [(zm, nm)] w' (LRow.of_block h) (by simp))
  simp only [L.joinZ, L.joinN, L.meetZ, L.meetN, List.foldl_cons, List.foldl_nil] at H73 H84 H97 H105
  simp only [hzj, hnj] at HJ0 H69 hj hj3 d1 d3
  simp only [hzm, hnm] at HM0 H80 hm hm3 d2 d4
  have e1 : max zc zj = max zj zc := by omega
  have e2 : nc ||| nj = nj ||| nc := Nat.or_comm _ _
  have e3 : min zc zm = min zm zc := by omega
  have e4 : nc &&& nm = nm &&& nc := Nat.and_comm _ _
  have e5 : min za zj = za := by omega
  have e6 : na &&& nj = na := by
    rw [← hnj]
    apply Nat.eq_of_testBit_eq
    intro q
    simp only [Nat.testBit_and, Nat.testBit_or]
    cases na.testBit q <;> simp
  have e7 : max za zm = za := by omega
  have e8 : na ||| nm = na := by
    rw [← hnm]
    apply Nat.eq_of_testBit_eq
    intro q
    simp only [Nat.testBit_and, Nat.testBit_or]
    cases na.testBit q <;> simp
  rw [e1, e2] at H73
  rw [e3, e4] at H84
  rw [e5, e6] at H97
  rw [e7, e8] at H105
  clear e1 e2 e3 e4 e5 e6 e7 e8 hzj hnj hzm hnm
  generalize max zj zc = z3 at *
  generalize nj ||| nc = n3 at *
  generalize min zm zc = y3 at *
  generalize nm &&& nc = m3 at *
  have Hja := Lib.hid (fun w => ldom_any zj nj za na w hna)
  have Hjb := Lib.hid (fun w => ldom_any zj nj zb nb w hnb)
  have Ham := Lib.hid (fun w => ldom_any za na zm nm w hm)
  have Hbm := Lib.hid (fun w => ldom_any zb nb zm nm w hm)
  rw [d1.1] at Hja
  rw [d1.2] at Hjb
  rw [d2.1] at Ham
  rw [d2.2] at Hbm
  have Hca := Lib.hid (fun w => ldom_any zc nc za na w hna)
  have Hcb := Lib.hid (fun w => ldom_any zc nc zb nb w hnb)
  have Hcj := Lib.hid (fun w => ldom_any zc nc zj nj w hj)
  have Hac := Lib.hid (fun w => ldom_any za na zc nc w hnc)
  have Hbc := Lib.hid (fun w => ldom_any zb nb zc nc w hnc)
  have Hmc := Lib.hid (fun w => ldom_any zm nm zc nc w hnc)
  rw [d3] at Hcj
  rw [d4] at Hmc
  clear d1 d2 d3 d4
  generalize L.dom zc nc za na = dca at *
  generalize L.dom zc nc zb nb = dcb at *
  generalize L.dom za na zc nc = dac at *
  generalize L.dom zb nb zc nc = dbc at *
  have HJ := HJ0
  have HM := HM0
  clear HJ0 HM0
  have HA := Lib.hid (((LabAt.new w za na).alloc (.cells (L.lv zb nb) 39)).alloc (.cells (L.lv zc nc) 39))
  have HB : Hid (LabAt (((w.alloc (.cells (L.lv za na) 39)).alloc (.cells (L.lv zb nb) 39)).alloc (.cells (L.lv zc nc) 39)) (w.heap.size + 1) zb nb) := Lib.hid (by have := (LabAt.new (w.alloc (.cells (L.lv za na) 39)) zb nb).alloc (.cells (L.lv zc nc) 39); simpa using this)
  have HC : Hid (LabAt (((w.alloc (.cells (L.lv za na) 39)).alloc (.cells (L.lv zb nb) 39)).alloc (.cells (L.lv zc nc) 39)) (w.heap.size + 1 + 1) zc nc) := Lib.hid (by have := LabAt.new ((w.alloc (.cells (L.lv za na) 39)).alloc (.cells (L.lv zb nb) 39)) zc nc; simpa using this)
  have hb0 : Below w.heap.size w (((w.alloc (.cells (L.lv za na) 39)).alloc (.cells (L.lv zb nb) 39)).alloc (.cells (L.lv zc nc) 39)) := (((Below.refl _ w).alloc (Nat.le_refl _) _).alloc (by simp) _).alloc (by simp; omega) _
  have HL0 := Lib.hid (Ld.below hb0)
  clear Ld
  go_enter Tryd.func6, Tryd.ntmps6
  go_wp2
  generalize hW0 : ((w.alloc (.cells (L.lv za na) 39)).alloc (.cells (L.lv zb nb) 39)).alloc (.cells (L.lv zc nc) 39) = W0 at *
  clear hW0
  refine region_gen_tail 10 (VG W0.heap.size [.val (.agg (L.lv (za) (na))), .val (.agg (L.lv (zb) (nb))), .row (labsX [(zb, nb)]) 39 1, .val (.agg (L.lv (zj) (nj))), .val (.agg (L.lv (za) (na))), .val (.agg (L.lv (zb) (nb))), .row (labsX [(zb, nb)]) 39 1, .val (.agg (L.lv (zm) (nm))), .ptr (L.lv 0 0) 39, .ptr (L.lv 0 0) 39]) (AS W0 [(8, 7), (9, 8)]) (by kernel_rfl) (by kernel_rfl) (by kernel_rfl) ⟨(Below.refl _ _).drew, fun p _ q _ _ h1 => by rw [getD_replicate_false] at h1; cases h1⟩ ⟨?_, ?_, ?_, ?_, ?_, ?_, ?_, ?_, ?_, ?_, trivial⟩ ?_
  · go_light; intro listed a' w' hs hS hun hdep
    have e3 : a'.eval (.tmp 3) = .pointer (some ⟨w.heap.size, 0, none⟩) := (hs.out 3 (by kernel_rfl)).trans (rfl)
    exact gA_val (.agg (L.lv (za) (na))) hS rfl (run_op_load_lab rfl e3 (HA.out.below hS.1 HA.out.lt)) rfl (by kernel_rfl)
  · go_light; intro listed a' w' hs hS hun hdep
    have e4 : a'.eval (.tmp 4) = .pointer (some ⟨(w.heap.size + 1), 0, none⟩) := (hs.out 4 (by kernel_rfl)).trans (rfl)
    exact gA_val (.agg (L.lv (zb) (nb))) hS rfl (run_op_load_lab rfl e4 (HB.out.below hS.1 HB.out.lt)) rfl (by kernel_rfl)
  · go_light; intro listed a' w' hs hS hun hdep
    have e10 : a'.eval (.tmp 10) = .agg (L.lv (zb) (nb)) := hs.eval 1 _ 10 rfl (hdep ⟨1, .data⟩ (by simp) rfl) rfl
    exact gA_new (.slice (some ⟨w'.heap.size, 0, none⟩) 1 1) _ hS rfl (run_op_labs [(zb, nb)] rfl (by simp [e10, labV]) rfl (by simp) (by simp)) ⟨w'.heap.size, Below.size hS.1, rfl, heap_alloc_new w' _⟩ (by kernel_rfl)
  · go_light; intro listed a' w' hs hS hun hdep
    have e9 : a'.eval (.tmp 9) = .agg (L.lv (za) (na)) := hs.eval 0 _ 9 rfl (hdep ⟨0, .data⟩ (by simp) rfl) rfl
    have r11 : (.row (labsX [(zb, nb)]) 39 1 : GV).ok W0.heap.size (a'.eval (.tmp 11)) w' := hs.eval 2 _ 11 rfl (hdep ⟨2, .data⟩ (by simp) rfl)  rfl
    obtain ⟨b11, _, e11, k11⟩ := r11
    refine gA_call 33 #[.agg (L.lv (za) (na)), .slice (some ⟨b11, 0, none⟩) 1 1] hS rfl ?_ (by kernel_rfl) ?_
    · have hcn := BigFrame.eval_const a'; have hfn := BigFrame.eval_func a'; clear hs hdep; generalize a'.eval = ev at *; go_simp
    · exact c_val (HJ.out b11 w' k11) rfl
  · go_light; intro listed a' w' hs hS hun hdep
    have e3 : a'.eval (.tmp 3) = .pointer (some ⟨w.heap.size, 0, none⟩) := (hs.out 3 (by kernel_rfl)).trans (rfl)
    exact gA_val (.agg (L.lv (za) (na))) hS rfl (run_op_load_lab rfl e3 (HA.out.below hS.1 HA.out.lt)) rfl (by kernel_rfl)
  · go_light; intro listed a' w' hs hS hun hdep
    have e4 : a'.eval (.tmp 4) = .pointer (some ⟨(w.heap.size + 1), 0, none⟩) := (hs.out 4 (by kernel_rfl)).trans (rfl)
    exact gA_val (.agg (L.lv (zb) (nb))) hS rfl (run_op_load_lab rfl e4 (HB.out.below hS.1 HB.out.lt)) rfl (by kernel_rfl)
  · go_light; intro listed a' w' hs hS hun hdep
    have e14 : a'.eval (.tmp 14) = .agg (L.lv (zb) (nb)) := hs.eval 5 _ 14 rfl (hdep ⟨5, .data⟩ (by simp) rfl) rfl
    exact gA_new (.slice (some ⟨w'.heap.size, 0, none⟩) 1 1) _ hS rfl (run_op_labs [(zb, nb)] rfl (by simp [e14, labV]) rfl (by simp) (by simp)) ⟨w'.heap.size, Below.size hS.1, rfl, heap_alloc_new w' _⟩ (by kernel_rfl)
  · go_light; intro listed a' w' hs hS hun hdep
    have e13 : a'.eval (.tmp 13) = .agg (L.lv (za) (na)) := hs.eval 4 _ 13 rfl (hdep ⟨4, .data⟩ (by simp) rfl) rfl
    have r15 : (.row (labsX [(zb, nb)]) 39 1 : GV).ok W0.heap.size (a'.eval (.tmp 15)) w' := hs.eval 6 _ 15 rfl (hdep ⟨6, .data⟩ (by simp) rfl)  rfl
    obtain ⟨b15, _, e15, k15⟩ := r15
    refine gA_call 34 #[.agg (L.lv (za) (na)), .slice (some ⟨b15, 0, none⟩) 1 1] hS rfl ?_ (by kernel_rfl) ?_
    · have hcn := BigFrame.eval_const a'; have hfn := BigFrame.eval_func a'; clear hs hdep; generalize a'.eval = ev at *; go_simp
    · exact c_val (HM.out b15 w' k15) rfl
  · go_light; intro listed a' w' hs hS hun hdep
    refine gA_make (d := 7) (.cells (L.lv 0 0) 39) hS hs rfl ?_ ⟨w'.heap.size, Below.size hS.1, rfl, heap_alloc_new w' _⟩ rfl (of_decide_eq_true (by kernel_rfl)) (by kernel_rfl)
    have hcn := BigFrame.eval_const a'
    have hfn := BigFrame.eval_func a'
    clear hs hdep
    generalize a'.eval = ev at *
    rw [← L.zero31]
    go_simp
  · go_light; intro listed a' w' hs hS hun hdep
    refine gA_make (d := 8) (.cells (L.lv 0 0) 39) hS hs rfl ?_ ⟨w'.heap.size, Below.size hS.1, rfl, heap_alloc_new w' _⟩ rfl (of_decide_eq_true (by kernel_rfl)) (by kernel_rfl)
    have hcn := BigFrame.eval_const a'
    have hfn := BigFrame.eval_func a'
    clear hs hdep
    generalize a'.eval = ev at *
    rw [← L.zero31]
    go_simp
  · intro vs w3 hlen hV hS
    obtain ⟨v0, v1, v2, v3, v4, v5, v6, v7, v8, v9, rfl⟩ := vs_10 vs (hlen.trans rfl)
    have q0 : v0 = .agg (L.lv (za) (na)) := hV 0 _ rfl
    have q1 : v1 = .agg (L.lv (zb) (nb)) := hV 1 _ rfl
    obtain ⟨b2, hge2, q2, hbk2⟩ : (.row (labsX [(zb, nb)]) 39 1 : GV).ok W0.heap.size v2 w3 := hV 2 _ rfl
    have q3 : v3 = .agg (L.lv (zj) (nj)) := hV 3 _ rfl
    have q4 : v4 = .agg (L.lv (za) (na)) := hV 4 _ rfl
    have q5 : v5 = .agg (L.lv (zb) (nb)) := hV 5 _ rfl
    obtain ⟨b6, hge6, q6, hbk6⟩ : (.row (labsX [(zb, nb)]) 39 1 : GV).ok W0.heap.size v6 w3 := hV 6 _ rfl
    have q7 : v7 = .agg (L.lv (zm) (nm)) := hV 7 _ rfl
    obtain ⟨b8, hge8, q8, hbk8⟩ : (.ptr (L.lv 0 0) 39 : GV).ok W0.heap.size v8 w3 := hV 8 _ rfl
    obtain ⟨b9, hge9, q9, hbk9⟩ : (.ptr (L.lv 0 0) 39 : GV).ok W0.heap.size v9 w3 := hV 9 _ rfl
    have hbel : Below W0.heap.size W0 w3 := hS.1
    have hdis := hS.2
    subst q0 q1 q2 q3 q4 q5 q6 q7 q8 q9
    clear hV hS
    simp only [lays, Act.put, List.setIfInBounds_toArray, List.set_cons_zero, List.set_cons_succ, List.drop_succ_cons, List.drop_zero, List.take_succ_cons, List.take_zero]
    have hne : b8 ≠ b9 := by
      have h := hdis (8, 7) (by simp) (9, 8) (by simp) (by decide) (by simp [canonN]) (by simp [canonN])
      simp [lays, Act.put, Act.eval] at h
      exact h
    clear hdis
    have H8 : Hid (LabAt w3 b8 0 0) := Lib.hid hbk8
    have H9 : Hid (LabAt w3 b9 0 0) := Lib.hid hbk9
    have HA3 := Lib.hid (HA.out.below hbel HA.out.lt)
    have HB3 := Lib.hid (HB.out.below hbel HB.out.lt)
    have HC3 := Lib.hid (HC.out.below hbel HC.out.lt)
    have HL3 := Lib.hid (HL0.out.below hbel)
    have hb3 := hb0.trans (hbel.mono hb0.size)
    have la := HA.out.lt
    have lb := HB.out.lt
    have lc := HC.out.lt
    have hl4 := HL0.out.tabl.size
    clear hbk8 hbk9 HA HB HC HL0 hbel hb0 hbk2 hbk6 HJ HM
    generalize b8 = gj at *
    generalize b9 = gm at *
    go_wp2_with (first | (refine store_lab rfl rfl rfl rfl H8.out ?_; intro w4 hs4 ho4; have HJ4 := Lib.hid hs4; have HO4 := Lib.hid ho4; clear hs4 ho4) | (refine store_lab rfl rfl rfl rfl (H9.out.only HO4.out (Ne.symm hne)) ?_; intro w5 hs5 ho5; have HM := Lib.hid hs5; have HJ := Lib.hid (HJ4.out.only ho5 hne); have HA := Lib.hid ((HA3.out.only HO4.out (by omega)).only ho5 (by omega)); have HB := Lib.hid ((HB3.out.only HO4.out (by omega)).only ho5 (by omega)); have HC := Lib.hid ((HC3.out.only HO4.out (by omega)).only ho5 (by omega)); have HO5 := Lib.hid ho5; clear hs5 ho5) | (refine load_lab rfl rfl rfl HJ.out ?_) | (refine load_lab rfl rfl rfl HA.out ?_))
    have hb5 : Below w.heap.size w w5 := (hb3.trans (HO4.out.below (by omega))).trans (HO5.out.below (by omega))
    have HL5 := Lib.hid ((HL3.out.only HO4.out (by omega)).only HO5.out (by omega))
    clear HA3 HB3 HC3 HL3 HJ4 HO4 HO5 H8 H9 hb3 la lb lc hl4
    refine (Hja.out _).mono ?_
    rintro e w6 ⟨rfl, hbk⟩
    have HA' := Lib.hid (HA.out.below hbk HA.out.lt)
    have HB' := Lib.hid (HB.out.below hbk HB.out.lt)
    have HC' := Lib.hid (HC.out.below hbk HC.out.lt)
    have HJ' := Lib.hid (HJ.out.below hbk HJ.out.lt)
    have HM' := Lib.hid (HM.out.below hbk HM.out.lt)
    have HL6 := Lib.hid (HL5.out.below hbk)
    have hb6 := hb5.trans (hbk.mono hb5.size)
    clear HA HB HC HJ HM HL5 hb5 hbk Hja
    have HA := HA'
    have HB := HB'
    have HC := HC'
    have HJ := HJ'
    have HM := HM'
    clear HA' HB' HC' HJ' HM'
    go_wp2_with (first | (refine load_lab rfl rfl rfl HJ.out ?_) | (refine load_lab rfl rfl rfl HB.out ?_))
    refine (Hjb.out _).mono ?_
    rintro e w7 ⟨rfl, hbk⟩
    have HA' := Lib.hid (HA.out.below hbk HA.out.lt)
    have HB' := Lib.hid (HB.out.below hbk HB.out.lt)
    have HC' := Lib.hid (HC.out.below hbk HC.out.lt)
    have HJ' := Lib.hid (HJ.out.below hbk HJ.out.lt)
    have HM' := Lib.hid (HM.out.below hbk HM.out.lt)
    have HL7 := Lib.hid (HL6.out.below hbk)
    have hb7 := hb6.trans (hbk.mono hb6.size)
    clear HA HB HC HJ HM HL6 hb6 hbk Hjb
    have HA := HA'
    have HB := HB'
    have HC := HC'
    have HJ := HJ'
    have HM := HM'
    clear HA' HB' HC' HJ' HM'
    go_wp2_with (first | (refine load_lab rfl rfl rfl HA.out ?_) | (refine load_lab rfl rfl rfl HM.out ?_))
    refine (Ham.out _).mono ?_
    rintro e w8 ⟨rfl, hbk⟩
    have HA' := Lib.hid (HA.out.below hbk HA.out.lt)
    have HB' := Lib.hid (HB.out.below hbk HB.out.lt)
    have HC' := Lib.hid (HC.out.below hbk HC.out.lt)
    have HJ' := Lib.hid (HJ.out.below hbk HJ.out.lt)
    have HM' := Lib.hid (HM.out.below hbk HM.out.lt)
    have HL8 := Lib.hid (HL7.out.below hbk)
    have hb8 := hb7.trans (hbk.mono hb7.size)
    clear HA HB HC HJ HM HL7 hb7 hbk Ham
    have HA := HA'
    have HB := HB'
    have HC := HC'
    have HJ := HJ'
    have HM := HM'
    clear HA' HB' HC' HJ' HM'
    go_wp2_with (first | (refine load_lab rfl rfl rfl HB.out ?_) | (refine load_lab rfl rfl rfl HM.out ?_))
    refine (Hbm.out _).mono ?_
    rintro e w9 ⟨rfl, hbk⟩
    have HA' := Lib.hid (HA.out.below hbk HA.out.lt)
    have HB' := Lib.hid (HB.out.below hbk HB.out.lt)
    have HC' := Lib.hid (HC.out.below hbk HC.out.lt)
    have HJ' := Lib.hid (HJ.out.below hbk HJ.out.lt)
    have HM' := Lib.hid (HM.out.below hbk HM.out.lt)
    have HL9 := Lib.hid (HL8.out.below hbk)
    have hb9 := hb8.trans (hbk.mono hb8.size)
    clear HA HB HC HJ HM HL8 hb8 hbk Hbm
    have HA := HA'
    have HB := HB'
    have HC := HC'
    have HJ := HJ'
    have HM := HM'
    clear HA' HB' HC' HJ' HM'
    go_wp2
    generalize hW : w9 = W0' at *
    clear hW
    refine region_gen (VG W0'.heap.size [.val (.agg (L.lv (zc) (nc))), .val (.agg (L.lv (za) (na))), .val (.bool dca), .val (.bool dca), .val (if dca = true then .agg (L.lv (zc) (nc)) else undef), .val (if dca = true then .agg (L.lv (zb) (nb)) else undef), .val (if dca = true then .bool dcb else undef), .val (.bool (dca && dcb)), .val (.agg (L.lv (zc) (nc))), .val (.agg (L.lv (zj) (nj))), .val (.bool (dca && dcb)), .val (.bool false), .val (.bool false), .val (.agg (L.lv (za) (na))), .val (.agg (L.lv (zc) (nc))), .val (.bool dac), .val (.bool dac), .val (if dac = true then .agg (L.lv (zb) (nb)) else undef), .val (if dac = true then .agg (L.lv (zc) (nc)) else undef), .val (if dac = true then .bool dbc else undef), .val (.bool (dac && dbc)), .val (.agg (L.lv (zm) (nm))), .val (.agg (L.lv (zc) (nc))), .val (.bool (dac && dbc)), .val (.bool false), .val (.bool false)]) (BS W0') (by kernel_rfl) (by kernel_rfl) (Below.refl _ _).drew ⟨?_, ?_, ?_, ?_, ?_, ?_, ?_, ?_, ?_, ?_, ?_, ?_, ?_, ?_, ?_, ?_, ?_, ?_, ?_, ?_, ?_, ?_, ?_, ?_, ?_, ?_, trivial⟩ ?_
    · go_light; intro listed a' w' hs hS hun hdep
      have e5 : a'.eval (.tmp 5) = .pointer (some ⟨(w.heap.size + 1 + 1), 0, none⟩) := (hs.out 5 (by kernel_rfl)).trans (rfl)
      exact g_val (.agg (L.lv (zc) (nc))) hS rfl (run_op_load_lab rfl e5 (HC.out.below hS HC.out.lt)) rfl
    · go_light; intro listed a' w' hs hS hun hdep
      have e3 : a'.eval (.tmp 3) = .pointer (some ⟨w.heap.size, 0, none⟩) := (hs.out 3 (by kernel_rfl)).trans (rfl)
      exact g_val (.agg (L.lv (za) (na))) hS rfl (run_op_load_lab rfl e3 (HA.out.below hS HA.out.lt)) rfl
    · go_light; intro listed a' w' hs hS hun hdep
      have e39 : a'.eval (.tmp 39) = .agg (L.lv (zc) (nc)) := hs.eval 0 _ 39 rfl (hdep ⟨0, .data⟩ (by simp) rfl) rfl
      have e40 : a'.eval (.tmp 40) = .agg (L.lv (za) (na)) := hs.eval 1 _ 40 rfl (hdep ⟨1, .data⟩ (by simp) rfl) rfl
      refine g_call 28 #[.agg (L.lv (zc) (nc)), .agg (L.lv (za) (na))] hS rfl ?_ ?_
      · have hcn := BigFrame.eval_const a'; have hfn := BigFrame.eval_func a'; clear hs hdep; generalize a'.eval = ev at *; go_simp
      · exact c_val (Hca.out w') rfl
    · go_light; intro listed a' w' hs hS hun hdep
      have e41 : a'.eval (.tmp 41) = .bool dca := hs.eval 2 _ 41 rfl (hdep ⟨2, .data⟩ (by simp) rfl) rfl
      refine g_val (.bool dca) hS rfl ?_ rfl
      have hcn := BigFrame.eval_const a'
      have hfn := BigFrame.eval_func a'
      clear hs hdep
      generalize a'.eval = ev at *
      go_simp
    · go_light; intro listed a' w' hs hS hun hdep
      have eg : a'.eval (.tmp 42) = .bool dca := hs.eval 3 _ 42 rfl (hdep ⟨3, .guard⟩ (by simp) rfl) rfl
      have e5 : a'.eval (.tmp 5) = .pointer (some ⟨(w.heap.size + 1 + 1), 0, none⟩) := (hs.out 5 (by kernel_rfl)).trans (rfl)
      cases dca
      · exact g_not hS (wanted_no rfl rfl rfl eg (by decide)) rfl
      · exact g_val (.agg (L.lv (zc) (nc))) hS (wanted_yes rfl rfl rfl eg) (run_op_load_lab rfl e5 (HC.out.below hS HC.out.lt)) rfl
    · go_light; intro listed a' w' hs hS hun hdep
      have eg : a'.eval (.tmp 42) = .bool dca := hs.eval 3 _ 42 rfl (hdep ⟨3, .guard⟩ (by simp) rfl) rfl
      have e4 : a'.eval (.tmp 4) = .pointer (some ⟨(w.heap.size + 1), 0, none⟩) := (hs.out 4 (by kernel_rfl)).trans (rfl)
      cases dca
      · exact g_not hS (wanted_no rfl rfl rfl eg (by decide)) rfl
      · exact g_val (.agg (L.lv (zb) (nb))) hS (wanted_yes rfl rfl rfl eg) (run_op_load_lab rfl e4 (HB.out.below hS HB.out.lt)) rfl
    · go_light; intro listed a' w' hs hS hun hdep
      have eg : a'.eval (.tmp 42) = .bool dca := hs.eval 3 _ 42 rfl (hdep ⟨3, .guard⟩ (by simp) rfl) rfl
      have e43 : a'.eval (.tmp 43) = (if dca = true then .agg (L.lv (zc) (nc)) else undef) := hs.eval 4 _ 43 rfl (hdep ⟨4, .data⟩ (by simp) rfl) rfl
      have e44 : a'.eval (.tmp 44) = (if dca = true then .agg (L.lv (zb) (nb)) else undef) := hs.eval 5 _ 44 rfl (hdep ⟨5, .data⟩ (by simp) rfl) rfl
      cases dca
      · exact g_not hS (wanted_no rfl rfl rfl eg (by decide)) rfl
      · replace e43 := e43.trans (if_pos rfl)
        replace e44 := e44.trans (if_pos rfl)
        refine g_call 28 #[.agg (L.lv (zc) (nc)), .agg (L.lv (zb) (nb))] hS (wanted_yes rfl rfl rfl eg) ?_ ?_
        · have hcn := BigFrame.eval_const a'; have hfn := BigFrame.eval_func a'; clear hs hdep; generalize a'.eval = ev at *; go_simp
        · exact c_val (Hcb.out w') rfl
    · go_light; intro listed a' w' hs hS hun hdep
      have e42 : a'.eval (.tmp 42) = .bool dca := hs.eval 3 _ 42 rfl (hdep ⟨3, .data⟩ (by simp) rfl) rfl
      have e45 : a'.eval (.tmp 45) = (if dca = true then .bool dcb else undef) := hs.eval 6 _ 45 rfl (hdep ⟨6, .data⟩ (by simp) rfl) rfl
      cases dca
      · replace e45 := e45.trans (if_neg (by decide))
        refine g_val (.bool (false && dcb)) hS rfl ?_ rfl
        have hcn := BigFrame.eval_const a'
        have hfn := BigFrame.eval_func a'
        clear hs hdep
        generalize a'.eval = ev at *
        go_simp
      · replace e45 := e45.trans (if_pos rfl)
        refine g_val (.bool (true && dcb)) hS rfl ?_ rfl
        have hcn := BigFrame.eval_const a'
        have hfn := BigFrame.eval_func a'
        clear hs hdep
        generalize a'.eval = ev at *
        go_simp
    · go_light; intro listed a' w' hs hS hun hdep
      have e5 : a'.eval (.tmp 5) = .pointer (some ⟨(w.heap.size + 1 + 1), 0, none⟩) := (hs.out 5 (by kernel_rfl)).trans (rfl)
      exact g_val (.agg (L.lv (zc) (nc))) hS rfl (run_op_load_lab rfl e5 (HC.out.below hS HC.out.lt)) rfl
    · go_light; intro listed a' w' hs hS hun hdep
      have e7 : a'.eval (.tmp 7) = .pointer (some ⟨gj, 0, none⟩) := (hs.out 7 (by kernel_rfl)).trans (rfl)
      exact g_val (.agg (L.lv (zj) (nj))) hS rfl (run_op_load_lab rfl e7 (HJ.out.below hS HJ.out.lt)) rfl
    · go_light; intro listed a' w' hs hS hun hdep
      have e47 : a'.eval (.tmp 47) = .agg (L.lv (zc) (nc)) := hs.eval 8 _ 47 rfl (hdep ⟨8, .data⟩ (by simp) rfl) rfl
      have e48 : a'.eval (.tmp 48) = .agg (L.lv (zj) (nj)) := hs.eval 9 _ 48 rfl (hdep ⟨9, .data⟩ (by simp) rfl) rfl
      refine g_call 28 #[.agg (L.lv (zc) (nc)), .agg (L.lv (zj) (nj))] hS rfl ?_ ?_
      · have hcn := BigFrame.eval_const a'; have hfn := BigFrame.eval_func a'; clear hs hdep; generalize a'.eval = ev at *; go_simp
      · exact c_val (Hcj.out w') rfl
    · go_light; intro listed a' w' hs hS hun hdep
      have e46 : a'.eval (.tmp 46) = .bool (dca && dcb) := hs.eval 7 _ 46 rfl (hdep ⟨7, .data⟩ (by simp) rfl) rfl
      have e49 : a'.eval (.tmp 49) = .bool (dca && dcb) := hs.eval 10 _ 49 rfl (hdep ⟨10, .data⟩ (by simp) rfl) rfl
      refine g_val (.bool false) hS rfl ?_ rfl
      have hcn := BigFrame.eval_const a'
      have hfn := BigFrame.eval_func a'
      clear hs hdep
      generalize a'.eval = ev at *
      go_simp
    · go_light; intro listed a' w' hs hS hun hdep
      have e50 : a'.eval (.tmp 50) = .bool false := hs.eval 11 _ 50 rfl (hdep ⟨11, .data⟩ (by simp) rfl) rfl
      refine g_val (.bool false) hS rfl ?_ rfl
      have hcn := BigFrame.eval_const a'
      have hfn := BigFrame.eval_func a'
      clear hs hdep
      generalize a'.eval = ev at *
      go_simp
    · go_light; intro listed a' w' hs hS hun hdep
      have eg : a'.eval (.tmp 51) = .bool false := hs.eval 12 _ 51 rfl (hdep ⟨12, .guard⟩ (by simp) rfl) rfl
      have e3 : a'.eval (.tmp 3) = .pointer (some ⟨w.heap.size, 0, none⟩) := (hs.out 3 (by kernel_rfl)).trans (rfl)
      exact g_val (.agg (L.lv (za) (na))) hS (wanted_yes rfl rfl rfl eg) (run_op_load_lab rfl e3 (HA.out.below hS HA.out.lt)) rfl
    · go_light; intro listed a' w' hs hS hun hdep
      have eg : a'.eval (.tmp 51) = .bool false := hs.eval 12 _ 51 rfl (hdep ⟨12, .guard⟩ (by simp) rfl) rfl
      have e5 : a'.eval (.tmp 5) = .pointer (some ⟨(w.heap.size + 1 + 1), 0, none⟩) := (hs.out 5 (by kernel_rfl)).trans (rfl)
      exact g_val (.agg (L.lv (zc) (nc))) hS (wanted_yes rfl rfl rfl eg) (run_op_load_lab rfl e5 (HC.out.below hS HC.out.lt)) rfl
    · go_light; intro listed a' w' hs hS hun hdep
      have eg : a'.eval (.tmp 51) = .bool false := hs.eval 12 _ 51 rfl (hdep ⟨12, .guard⟩ (by simp) rfl) rfl
      have e52 : a'.eval (.tmp 52) = .agg (L.lv (za) (na)) := hs.eval 13 _ 52 rfl (hdep ⟨13, .data⟩ (by simp) rfl) rfl
      have e53 : a'.eval (.tmp 53) = .agg (L.lv (zc) (nc)) := hs.eval 14 _ 53 rfl (hdep ⟨14, .data⟩ (by simp) rfl) rfl
      refine g_call 28 #[.agg (L.lv (za) (na)), .agg (L.lv (zc) (nc))] hS (wanted_yes rfl rfl rfl eg) ?_ ?_
      · have hcn := BigFrame.eval_const a'; have hfn := BigFrame.eval_func a'; clear hs hdep; generalize a'.eval = ev at *; go_simp
      · exact c_val (Hac.out w') rfl
    · go_light; intro listed a' w' hs hS hun hdep
      have eg : a'.eval (.tmp 51) = .bool false := hs.eval 12 _ 51 rfl (hdep ⟨12, .guard⟩ (by simp) rfl) rfl
      have e54 : a'.eval (.tmp 54) = .bool dac := hs.eval 15 _ 54 rfl (hdep ⟨15, .data⟩ (by simp) rfl) rfl
      refine g_val (.bool dac) hS (wanted_yes rfl rfl rfl eg) ?_ rfl
      have hcn := BigFrame.eval_const a'
      have hfn := BigFrame.eval_func a'
      clear hs hdep
      generalize a'.eval = ev at *
      go_simp
    · go_light; intro listed a' w' hs hS hun hdep
      have eg : a'.eval (.tmp 55) = .bool dac := hs.eval 16 _ 55 rfl (hdep ⟨16, .guard⟩ (by simp) rfl) rfl
      have e4 : a'.eval (.tmp 4) = .pointer (some ⟨(w.heap.size + 1), 0, none⟩) := (hs.out 4 (by kernel_rfl)).trans (rfl)
      cases dac
      · exact g_not hS (wanted_no rfl rfl rfl eg (by decide)) rfl
      · exact g_val (.agg (L.lv (zb) (nb))) hS (wanted_yes rfl rfl rfl eg) (run_op_load_lab rfl e4 (HB.out.below hS HB.out.lt)) rfl
    · go_light; intro listed a' w' hs hS hun hdep
      have eg : a'.eval (.tmp 55) = .bool dac := hs.eval 16 _ 55 rfl (hdep ⟨16, .guard⟩ (by simp) rfl) rfl
      have e5 : a'.eval (.tmp 5) = .pointer (some ⟨(w.heap.size + 1 + 1), 0, none⟩) := (hs.out 5 (by kernel_rfl)).trans (rfl)
      cases dac
      · exact g_not hS (wanted_no rfl rfl rfl eg (by decide)) rfl
      · exact g_val (.agg (L.lv (zc) (nc))) hS (wanted_yes rfl rfl rfl eg) (run_op_load_lab rfl e5 (HC.out.below hS HC.out.lt)) rfl
    · go_light; intro listed a' w' hs hS hun hdep
      have eg : a'.eval (.tmp 55) = .bool dac := hs.eval 16 _ 55 rfl (hdep ⟨16, .guard⟩ (by simp) rfl) rfl
      have e56 : a'.eval (.tmp 56) = (if dac = true then .agg (L.lv (zb) (nb)) else undef) := hs.eval 17 _ 56 rfl (hdep ⟨17, .data⟩ (by simp) rfl) rfl
      have e57 : a'.eval (.tmp 57) = (if dac = true then .agg (L.lv (zc) (nc)) else undef) := hs.eval 18 _ 57 rfl (hdep ⟨18, .data⟩ (by simp) rfl) rfl
      cases dac
      · exact g_not hS (wanted_no rfl rfl rfl eg (by decide)) rfl
      · replace e56 := e56.trans (if_pos rfl)
        replace e57 := e57.trans (if_pos rfl)
        refine g_call 28 #[.agg (L.lv (zb) (nb)), .agg (L.lv (zc) (nc))] hS (wanted_yes rfl rfl rfl eg) ?_ ?_
        · have hcn := BigFrame.eval_const a'; have hfn := BigFrame.eval_func a'; clear hs hdep; generalize a'.eval = ev at *; go_simp
        · exact c_val (Hbc.out w') rfl
    · go_light; intro listed a' w' hs hS hun hdep
      have eg : a'.eval (.tmp 51) = .bool false := hs.eval 12 _ 51 rfl (hdep ⟨12, .guard⟩ (by simp) rfl) rfl
      have e55 : a'.eval (.tmp 55) = .bool dac := hs.eval 16 _ 55 rfl (hdep ⟨16, .data⟩ (by simp) rfl) rfl
      have e58 : a'.eval (.tmp 58) = (if dac = true then .bool dbc else undef) := hs.eval 19 _ 58 rfl (hdep ⟨19, .data⟩ (by simp) rfl) rfl
      cases dac
      · replace e58 := e58.trans (if_neg (by decide))
        refine g_val (.bool (false && dbc)) hS (wanted_yes rfl rfl rfl eg) ?_ rfl
        have hcn := BigFrame.eval_const a'
        have hfn := BigFrame.eval_func a'
        clear hs hdep
        generalize a'.eval = ev at *
        go_simp
      · replace e58 := e58.trans (if_pos rfl)
        refine g_val (.bool (true && dbc)) hS (wanted_yes rfl rfl rfl eg) ?_ rfl
        have hcn := BigFrame.eval_const a'
        have hfn := BigFrame.eval_func a'
        clear hs hdep
        generalize a'.eval = ev at *
        go_simp
    · go_light; intro listed a' w' hs hS hun hdep
      have eg : a'.eval (.tmp 51) = .bool false := hs.eval 12 _ 51 rfl (hdep ⟨12, .guard⟩ (by simp) rfl) rfl
      have e8 : a'.eval (.tmp 8) = .pointer (some ⟨gm, 0, none⟩) := (hs.out 8 (by kernel_rfl)).trans (rfl)
      exact g_val (.agg (L.lv (zm) (nm))) hS (wanted_yes rfl rfl rfl eg) (run_op_load_lab rfl e8 (HM.out.below hS HM.out.lt)) rfl
    · go_light; intro listed a' w' hs hS hun hdep
      have eg : a'.eval (.tmp 51) = .bool false := hs.eval 12 _ 51 rfl (hdep ⟨12, .guard⟩ (by simp) rfl) rfl
      have e5 : a'.eval (.tmp 5) = .pointer (some ⟨(w.heap.size + 1 + 1), 0, none⟩) := (hs.out 5 (by kernel_rfl)).trans (rfl)
      exact g_val (.agg (L.lv (zc) (nc))) hS (wanted_yes rfl rfl rfl eg) (run_op_load_lab rfl e5 (HC.out.below hS HC.out.lt)) rfl
    · go_light; intro listed a' w' hs hS hun hdep
      have eg : a'.eval (.tmp 51) = .bool false := hs.eval 12 _ 51 rfl (hdep ⟨12, .guard⟩ (by simp) rfl) rfl
      have e60 : a'.eval (.tmp 60) = .agg (L.lv (zm) (nm)) := hs.eval 21 _ 60 rfl (hdep ⟨21, .data⟩ (by simp) rfl) rfl
      have e61 : a'.eval (.tmp 61) = .agg (L.lv (zc) (nc)) := hs.eval 22 _ 61 rfl (hdep ⟨22, .data⟩ (by simp) rfl) rfl
      refine g_call 28 #[.agg (L.lv (zm) (nm)), .agg (L.lv (zc) (nc))] hS (wanted_yes rfl rfl rfl eg) ?_ ?_
      · have hcn := BigFrame.eval_const a'; have hfn := BigFrame.eval_func a'; clear hs hdep; generalize a'.eval = ev at *; go_simp
      · exact c_val (Hmc.out w') rfl
    · go_light; intro listed a' w' hs hS hun hdep
      have eg : a'.eval (.tmp 51) = .bool false := hs.eval 12 _ 51 rfl (hdep ⟨12, .guard⟩ (by simp) rfl) rfl
      have e59 : a'.eval (.tmp 59) = .bool (dac && dbc) := hs.eval 20 _ 59 rfl (hdep ⟨20, .data⟩ (by simp) rfl) rfl
      have e62 : a'.eval (.tmp 62) = .bool (dac && dbc) := hs.eval 23 _ 62 rfl (hdep ⟨23, .data⟩ (by simp) rfl) rfl
      refine g_val (.bool false) hS (wanted_yes rfl rfl rfl eg) ?_ rfl
      have hcn := BigFrame.eval_const a'
      have hfn := BigFrame.eval_func a'
      clear hs hdep
      generalize a'.eval = ev at *
      go_simp
    · go_light; intro listed a' w' hs hS hun hdep
      have e51 : a'.eval (.tmp 51) = .bool false := hs.eval 12 _ 51 rfl (hdep ⟨12, .data⟩ (by simp) rfl) rfl
      have e63 : a'.eval (.tmp 63) = .bool false := hs.eval 24 _ 63 rfl (hdep ⟨24, .data⟩ (by simp) rfl) rfl
      refine g_val (.bool false) hS rfl ?_ rfl
      have hcn := BigFrame.eval_const a'
      have hfn := BigFrame.eval_func a'
      clear hs hdep
      generalize a'.eval = ev at *
      go_simp
    · intro vs w10 hlen hV listed hall hS
      obtain ⟨v0, v1, v2, v3, v4, v5, v6, v7, v8, v9, v10, v11, v12, v13, v14, v15, v16, v17, v18, v19, v20, v21, v22, v23, v24, v25, rfl⟩ := vs_26 vs (hlen.trans rfl)
      have q0 : v0 = .agg (L.lv (zc) (nc)) := hV 0 _ rfl
      have q1 : v1 = .agg (L.lv (za) (na)) := hV 1 _ rfl
      have q2 : v2 = .bool dca := hV 2 _ rfl
      have q3 : v3 = .bool dca := hV 3 _ rfl
      have q7 : v7 = .bool (dca && dcb) := hV 7 _ rfl
      have q8 : v8 = .agg (L.lv (zc) (nc)) := hV 8 _ rfl
      have q9 : v9 = .agg (L.lv (zj) (nj)) := hV 9 _ rfl
      have q10 : v10 = .bool (dca && dcb) := hV 10 _ rfl
      have q11 : v11 = .bool false := hV 11 _ rfl
      have q12 : v12 = .bool false := hV 12 _ rfl
      have q13 : v13 = .agg (L.lv (za) (na)) := hV 13 _ rfl
      have q14 : v14 = .agg (L.lv (zc) (nc)) := hV 14 _ rfl
      have q15 : v15 = .bool dac := hV 15 _ rfl
      have q16 : v16 = .bool dac := hV 16 _ rfl
      have q20 : v20 = .bool (dac && dbc) := hV 20 _ rfl
      have q21 : v21 = .agg (L.lv (zm) (nm)) := hV 21 _ rfl
      have q22 : v22 = .agg (L.lv (zc) (nc)) := hV 22 _ rfl
      have q23 : v23 = .bool (dac && dbc) := hV 23 _ rfl
      have q24 : v24 = .bool false := hV 24 _ rfl
      have q25 : v25 = .bool false := hV 25 _ rfl
      have hbel : Below W0'.heap.size W0' w10 := hS
      subst q0 q1 q2 q3 q7 q8 q9 q10 q11 q12 q13 q14 q15 q16 q20 q21 q22 q23 q24 q25
      clear hV hS hall
      simp only [lays, Act.put, List.setIfInBounds_toArray, List.set_cons_zero, List.set_cons_succ]
      have HA' := Lib.hid (HA.out.below hbel HA.out.lt)
      have HB' := Lib.hid (HB.out.below hbel HB.out.lt)
      have HC' := Lib.hid (HC.out.below hbel HC.out.lt)
      have HJ' := Lib.hid (HJ.out.below hbel HJ.out.lt)
      have HM' := Lib.hid (HM.out.below hbel HM.out.lt)
      have HL := Lib.hid (HL9.out.below hbel)
      have hb10 := hb9.trans (hbel.mono hb9.size)
      clear HA HB HC HJ HM HL9 hb9 hbel Hca Hcb Hcj Hac Hbc Hmc
      have HA := HA'
      have HB := HB'
      have HC := HC'
      have HJ := HJ'
      have HM := HM'
      clear HA' HB' HC' HJ' HM'
      go_wp2
      generalize hW : w10 = W1' at *
      clear hW
      refine region_gen (VG W1'.heap.size [.val (.agg (L.lv (za) (na))), .val (.agg (L.lv (zb) (nb))), .val (.agg (L.lv (zc) (nc))), .row (labsX [(zb, nb), (zc, nc)]) 39 2, .val (.agg (L.lv (z3) (n3))), .val (.agg (L.lv (zc) (nc))), .val (.agg (L.lv (zj) (nj))), .row (labsX [(zj, nj)]) 39 1, .val (.agg (L.lv (z3) (n3))), .val (.bool true), .val (.bool true), .val (.agg (L.lv (za) (na))), .val (.agg (L.lv (zb) (nb))), .val (.agg (L.lv (zc) (nc))), .row (labsX [(zb, nb), (zc, nc)]) 39 2, .val (.agg (L.lv (y3) (m3))), .val (.agg (L.lv (zc) (nc))), .val (.agg (L.lv (zm) (nm))), .row (labsX [(zm, nm)]) 39 1, .val (.agg (L.lv (y3) (m3))), .val (.bool true), .val (.bool true), .val (.bool true), .val (.agg (L.lv (za) (na))), .val (.agg (L.lv (za) (na))), .val (.agg (L.lv (za) (na))), .val (.bool true), .val (.bool true), .val (.bool true), .val (.agg (L.lv (za) (na))), .val (.agg (L.lv (zj) (nj))), .row (labsX [(zj, nj)]) 39 1, .val (.agg (L.lv (za) (na))), .val (.agg (L.lv (za) (na))), .val (.bool true), .val (.bool true), .val (.bool true), .val (.agg (L.lv (za) (na))), .val (.agg (L.lv (zm) (nm))), .row (labsX [(zm, nm)]) 39 1, .val (.agg (L.lv (za) (na))), .val (.agg (L.lv (za) (na))), .val (.bool true), .val (.bool true), .val (.bool true), .val (.bool true), .val (.bool true), .val (.bool true)]) (BS W1') (by kernel_rfl) (by kernel_rfl) (Below.refl _ _).drew ⟨?_, ?_, ?_, ?_, ?_, ?_, ?_, ?_, ?_, ?_, ?_, ?_, ?_, ?_, ?_, ?_, ?_, ?_, ?_, ?_, ?_, ?_, ?_, ?_, ?_, ?_, ?_, ?_, ?_, ?_, ?_, ?_, ?_, ?_, ?_, ?_, ?_, ?_, ?_, ?_, ?_, ?_, ?_, ?_, ?_, ?_, ?_, ?_, trivial⟩ ?_
      · go_light; intro listed a' w' hs hS hun hdep
        have e3 : a'.eval (.tmp 3) = .pointer (some ⟨w.heap.size, 0, none⟩) := (hs.out 3 (by kernel_rfl)).trans (rfl)
        exact g_val (.agg (L.lv (za) (na))) hS rfl (run_op_load_lab rfl e3 (HA.out.below hS HA.out.lt)) rfl
      · go_light; intro listed a' w' hs hS hun hdep
        have e4 : a'.eval (.tmp 4) = .pointer (some ⟨(w.heap.size + 1), 0, none⟩) := (hs.out 4 (by kernel_rfl)).trans (rfl)
        exact g_val (.agg (L.lv (zb) (nb))) hS rfl (run_op_load_lab rfl e4 (HB.out.below hS HB.out.lt)) rfl
      · go_light; intro listed a' w' hs hS hun hdep
        have e5 : a'.eval (.tmp 5) = .pointer (some ⟨(w.heap.size + 1 + 1), 0, none⟩) := (hs.out 5 (by kernel_rfl)).trans (rfl)
        exact g_val (.agg (L.lv (zc) (nc))) hS rfl (run_op_load_lab rfl e5 (HC.out.below hS HC.out.lt)) rfl
      · go_light; intro listed a' w' hs hS hun hdep
        have e66 : a'.eval (.tmp 66) = .agg (L.lv (zb) (nb)) := hs.eval 1 _ 66 rfl (hdep ⟨1, .data⟩ (by simp) rfl) rfl
        have e67 : a'.eval (.tmp 67) = .agg (L.lv (zc) (nc)) := hs.eval 2 _ 67 rfl (hdep ⟨2, .data⟩ (by simp) rfl) rfl
        exact g_new (.slice (some ⟨w'.heap.size, 0, none⟩) 2 2) _ hS rfl (run_op_labs [(zb, nb), (zc, nc)] rfl (by simp [e66, e67, labV]) rfl (by simp) (by simp)) ⟨w'.heap.size, Below.size hS, rfl, heap_alloc_new w' _⟩
      · go_light; intro listed a' w' hs hS hun hdep
        have e65 : a'.eval (.tmp 65) = .agg (L.lv (za) (na)) := hs.eval 0 _ 65 rfl (hdep ⟨0, .data⟩ (by simp) rfl) rfl
        have r68 : (.row (labsX [(zb, nb), (zc, nc)]) 39 2 : GV).ok W1'.heap.size (a'.eval (.tmp 68)) w' := hs.eval 3 _ 68 rfl (hdep ⟨3, .data⟩ (by simp) rfl)  rfl
        obtain ⟨b68, _, e68, k68⟩ := r68
        refine g_call 33 #[.agg (L.lv (za) (na)), .slice (some ⟨b68, 0, none⟩) 2 2] hS rfl ?_ ?_
        · have hcn := BigFrame.eval_const a'; have hfn := BigFrame.eval_func a'; clear hs hdep; generalize a'.eval = ev at *; go_simp
        · exact c_val (H69.out b68 w' k68) rfl
      · go_light; intro listed a' w' hs hS hun hdep
        have e5 : a'.eval (.tmp 5) = .pointer (some ⟨(w.heap.size + 1 + 1), 0, none⟩) := (hs.out 5 (by kernel_rfl)).trans (rfl)
        exact g_val (.agg (L.lv (zc) (nc))) hS rfl (run_op_load_lab rfl e5 (HC.out.below hS HC.out.lt)) rfl
      · go_light; intro listed a' w' hs hS hun hdep
        have e7 : a'.eval (.tmp 7) = .pointer (some ⟨gj, 0, none⟩) := (hs.out 7 (by kernel_rfl)).trans (rfl)
        exact g_val (.agg (L.lv (zj) (nj))) hS rfl (run_op_load_lab rfl e7 (HJ.out.below hS HJ.out.lt)) rfl
      · go_light; intro listed a' w' hs hS hun hdep
        have e71 : a'.eval (.tmp 71) = .agg (L.lv (zj) (nj)) := hs.eval 6 _ 71 rfl (hdep ⟨6, .data⟩ (by simp) rfl) rfl
        exact g_new (.slice (some ⟨w'.heap.size, 0, none⟩) 1 1) _ hS rfl (run_op_labs [(zj, nj)] rfl (by simp [e71, labV]) rfl (by simp) (by simp)) ⟨w'.heap.size, Below.size hS, rfl, heap_alloc_new w' _⟩
      · go_light; intro listed a' w' hs hS hun hdep
        have e70 : a'.eval (.tmp 70) = .agg (L.lv (zc) (nc)) := hs.eval 5 _ 70 rfl (hdep ⟨5, .data⟩ (by simp) rfl) rfl
        have r72 : (.row (labsX [(zj, nj)]) 39 1 : GV).ok W1'.heap.size (a'.eval (.tmp 72)) w' := hs.eval 7 _ 72 rfl (hdep ⟨7, .data⟩ (by simp) rfl)  rfl
        obtain ⟨b72, _, e72, k72⟩ := r72
        refine g_call 33 #[.agg (L.lv (zc) (nc)), .slice (some ⟨b72, 0, none⟩) 1 1] hS rfl ?_ ?_
        · have hcn := BigFrame.eval_const a'; have hfn := BigFrame.eval_func a'; clear hs hdep; generalize a'.eval = ev at *; go_simp
        · exact c_val (H73.out b72 w' k72) rfl
      · go_light; intro listed a' w' hs hS hun hdep
        have e69 : a'.eval (.tmp 69) = .agg (L.lv (z3) (n3)) := hs.eval 4 _ 69 rfl (hdep ⟨4, .data⟩ (by simp) rfl) rfl
        have e73 : a'.eval (.tmp 73) = .agg (L.lv (z3) (n3)) := hs.eval 8 _ 73 rfl (hdep ⟨8, .data⟩ (by simp) rfl) rfl
        exact g_val (.bool true) hS rfl (run_op_same_lab rfl e69 e73 hj3) rfl
      · go_light; intro listed a' w' hs hS hun hdep
        have e74 : a'.eval (.tmp 74) = .bool true := hs.eval 9 _ 74 rfl (hdep ⟨9, .data⟩ (by simp) rfl) rfl
        refine g_val (.bool true) hS rfl ?_ rfl
        have hcn := BigFrame.eval_const a'
        have hfn := BigFrame.eval_func a'
        clear hs hdep
        generalize a'.eval = ev at *
        go_simp
      · go_light; intro listed a' w' hs hS hun hdep
        have eg : a'.eval (.tmp 75) = .bool true := hs.eval 10 _ 75 rfl (hdep ⟨10, .guard⟩ (by simp) rfl) rfl
        have e3 : a'.eval (.tmp 3) = .pointer (some ⟨w.heap.size, 0, none⟩) := (hs.out 3 (by kernel_rfl)).trans (rfl)
        exact g_val (.agg (L.lv (za) (na))) hS (wanted_yes rfl rfl rfl eg) (run_op_load_lab rfl e3 (HA.out.below hS HA.out.lt)) rfl
      · go_light; intro listed a' w' hs hS hun hdep
        have eg : a'.eval (.tmp 75) = .bool true := hs.eval 10 _ 75 rfl (hdep ⟨10, .guard⟩ (by simp) rfl) rfl
        have e4 : a'.eval (.tmp 4) = .pointer (some ⟨(w.heap.size + 1), 0, none⟩) := (hs.out 4 (by kernel_rfl)).trans (rfl)
        exact g_val (.agg (L.lv (zb) (nb))) hS (wanted_yes rfl rfl rfl eg) (run_op_load_lab rfl e4 (HB.out.below hS HB.out.lt)) rfl
      · go_light; intro listed a' w' hs hS hun hdep
        have eg : a'.eval (.tmp 75) = .bool true := hs.eval 10 _ 75 rfl (hdep ⟨10, .guard⟩ (by simp) rfl) rfl
        have e5 : a'.eval (.tmp 5) = .pointer (some ⟨(w.heap.size + 1 + 1), 0, none⟩) := (hs.out 5 (by kernel_rfl)).trans (rfl)
        exact g_val (.agg (L.lv (zc) (nc))) hS (wanted_yes rfl rfl rfl eg) (run_op_load_lab rfl e5 (HC.out.below hS HC.out.lt)) rfl
      · go_light; intro listed a' w' hs hS hun hdep
        have eg : a'.eval (.tmp 75) = .bool true := hs.eval 10 _ 75 rfl (hdep ⟨10, .guard⟩ (by simp) rfl) rfl
        have e77 : a'.eval (.tmp 77) = .agg (L.lv (zb) (nb)) := hs.eval 12 _ 77 rfl (hdep ⟨12, .data⟩ (by simp) rfl) rfl
        have e78 : a'.eval (.tmp 78) = .agg (L.lv (zc) (nc)) := hs.eval 13 _ 78 rfl (hdep ⟨13, .data⟩ (by simp) rfl) rfl
        exact g_new (.slice (some ⟨w'.heap.size, 0, none⟩) 2 2) _ hS (wanted_yes rfl rfl rfl eg) (run_op_labs [(zb, nb), (zc, nc)] rfl (by simp [e77, e78, labV]) rfl (by simp) (by simp)) ⟨w'.heap.size, Below.size hS, rfl, heap_alloc_new w' _⟩
      · go_light; intro listed a' w' hs hS hun hdep
        have eg : a'.eval (.tmp 75) = .bool true := hs.eval 10 _ 75 rfl (hdep ⟨10, .guard⟩ (by simp) rfl) rfl
        have e76 : a'.eval (.tmp 76) = .agg (L.lv (za) (na)) := hs.eval 11 _ 76 rfl (hdep ⟨11, .data⟩ (by simp) rfl) rfl
        have r79 : (.row (labsX [(zb, nb), (zc, nc)]) 39 2 : GV).ok W1'.heap.size (a'.eval (.tmp 79)) w' := hs.eval 14 _ 79 rfl (hdep ⟨14, .data⟩ (by simp) rfl)  rfl
        obtain ⟨b79, _, e79, k79⟩ := r79
        refine g_call 34 #[.agg (L.lv (za) (na)), .slice (some ⟨b79, 0, none⟩) 2 2] hS (wanted_yes rfl rfl rfl eg) ?_ ?_
        · have hcn := BigFrame.eval_const a'; have hfn := BigFrame.eval_func a'; clear hs hdep; generalize a'.eval = ev at *; go_simp
        · exact c_val (H80.out b79 w' k79) rfl
      · go_light; intro listed a' w' hs hS hun hdep
        have eg : a'.eval (.tmp 75) = .bool true := hs.eval 10 _ 75 rfl (hdep ⟨10, .guard⟩ (by simp) rfl) rfl
        have e5 : a'.eval (.tmp 5) = .pointer (some ⟨(w.heap.size + 1 + 1), 0, none⟩) := (hs.out 5 (by kernel_rfl)).trans (rfl)
        exact g_val (.agg (L.lv (zc) (nc))) hS (wanted_yes rfl rfl rfl eg) (run_op_load_lab rfl e5 (HC.out.below hS HC.out.lt)) rfl
      · go_light; intro listed a' w' hs hS hun hdep
        have eg : a'.eval (.tmp 75) = .bool true := hs.eval 10 _ 75 rfl (hdep ⟨10, .guard⟩ (by simp) rfl) rfl
        have e8 : a'.eval (.tmp 8) = .pointer (some ⟨gm, 0, none⟩) := (hs.out 8 (by kernel_rfl)).trans (rfl)
        exact g_val (.agg (L.lv (zm) (nm))) hS (wanted_yes rfl rfl rfl eg) (run_op_load_lab rfl e8 (HM.out.below hS HM.out.lt)) rfl
      · go_light; intro listed a' w' hs hS hun hdep
        have eg : a'.eval (.tmp 75) = .bool true := hs.eval 10 _ 75 rfl (hdep ⟨10, .guard⟩ (by simp) rfl) rfl
        have e82 : a'.eval (.tmp 82) = .agg (L.lv (zm) (nm)) := hs.eval 17 _ 82 rfl (hdep ⟨17, .data⟩ (by simp) rfl) rfl
        exact g_new (.slice (some ⟨w'.heap.size, 0, none⟩) 1 1) _ hS (wanted_yes rfl rfl rfl eg) (run_op_labs [(zm, nm)] rfl (by simp [e82, labV]) rfl (by simp) (by simp)) ⟨w'.heap.size, Below.size hS, rfl, heap_alloc_new w' _⟩
      · go_light; intro listed a' w' hs hS hun hdep
        have eg : a'.eval (.tmp 75) = .bool true := hs.eval 10 _ 75 rfl (hdep ⟨10, .guard⟩ (by simp) rfl) rfl
        have e81 : a'.eval (.tmp 81) = .agg (L.lv (zc) (nc)) := hs.eval 16 _ 81 rfl (hdep ⟨16, .data⟩ (by simp) rfl) rfl
        have r83 : (.row (labsX [(zm, nm)]) 39 1 : GV).ok W1'.heap.size (a'.eval (.tmp 83)) w' := hs.eval 18 _ 83 rfl (hdep ⟨18, .data⟩ (by simp) rfl)  rfl
        obtain ⟨b83, _, e83, k83⟩ := r83
        refine g_call 34 #[.agg (L.lv (zc) (nc)), .slice (some ⟨b83, 0, none⟩) 1 1] hS (wanted_yes rfl rfl rfl eg) ?_ ?_
        · have hcn := BigFrame.eval_const a'; have hfn := BigFrame.eval_func a'; clear hs hdep; generalize a'.eval = ev at *; go_simp
        · exact c_val (H84.out b83 w' k83) rfl
      · go_light; intro listed a' w' hs hS hun hdep
        have eg : a'.eval (.tmp 75) = .bool true := hs.eval 10 _ 75 rfl (hdep ⟨10, .guard⟩ (by simp) rfl) rfl
        have e80 : a'.eval (.tmp 80) = .agg (L.lv (y3) (m3)) := hs.eval 15 _ 80 rfl (hdep ⟨15, .data⟩ (by simp) rfl) rfl
        have e84 : a'.eval (.tmp 84) = .agg (L.lv (y3) (m3)) := hs.eval 19 _ 84 rfl (hdep ⟨19, .data⟩ (by simp) rfl) rfl
        exact g_val (.bool true) hS (wanted_yes rfl rfl rfl eg) (run_op_same_lab rfl e80 e84 hm3) rfl
      · go_light; intro listed a' w' hs hS hun hdep
        have e75 : a'.eval (.tmp 75) = .bool true := hs.eval 10 _ 75 rfl (hdep ⟨10, .data⟩ (by simp) rfl) rfl
        have e85 : a'.eval (.tmp 85) = .bool true := hs.eval 20 _ 85 rfl (hdep ⟨20, .data⟩ (by simp) rfl) rfl
        refine g_val (.bool true) hS rfl ?_ rfl
        have hcn := BigFrame.eval_const a'
        have hfn := BigFrame.eval_func a'
        clear hs hdep
        generalize a'.eval = ev at *
        go_simp
      · go_light; intro listed a' w' hs hS hun hdep
        have e86 : a'.eval (.tmp 86) = .bool true := hs.eval 21 _ 86 rfl (hdep ⟨21, .data⟩ (by simp) rfl) rfl
        refine g_val (.bool true) hS rfl ?_ rfl
        have hcn := BigFrame.eval_const a'
        have hfn := BigFrame.eval_func a'
        clear hs hdep
        generalize a'.eval = ev at *
        go_simp
      · go_light; intro listed a' w' hs hS hun hdep
        have eg : a'.eval (.tmp 87) = .bool true := hs.eval 22 _ 87 rfl (hdep ⟨22, .guard⟩ (by simp) rfl) rfl
        have e3 : a'.eval (.tmp 3) = .pointer (some ⟨w.heap.size, 0, none⟩) := (hs.out 3 (by kernel_rfl)).trans (rfl)
        exact g_val (.agg (L.lv (za) (na))) hS (wanted_yes rfl rfl rfl eg) (run_op_load_lab rfl e3 (HA.out.below hS HA.out.lt)) rfl
      · go_light; intro listed a' w' hs hS hun hdep
        have eg : a'.eval (.tmp 87) = .bool true := hs.eval 22 _ 87 rfl (hdep ⟨22, .guard⟩ (by simp) rfl) rfl
        have e88 : a'.eval (.tmp 88) = .agg (L.lv (za) (na)) := hs.eval 23 _ 88 rfl (hdep ⟨23, .data⟩ (by simp) rfl) rfl
        refine g_call 33 #[.agg (L.lv (za) (na)), Value.slice none 0 0] hS (wanted_yes rfl rfl rfl eg) ?_ ?_
        · have hcn := BigFrame.eval_const a'; have hfn := BigFrame.eval_func a'; clear hs hdep; generalize a'.eval = ev at *; go_simp
        · exact c_val (H89.out w') rfl
      · go_light; intro listed a' w' hs hS hun hdep
        have eg : a'.eval (.tmp 87) = .bool true := hs.eval 22 _ 87 rfl (hdep ⟨22, .guard⟩ (by simp) rfl) rfl
        have e3 : a'.eval (.tmp 3) = .pointer (some ⟨w.heap.size, 0, none⟩) := (hs.out 3 (by kernel_rfl)).trans (rfl)
        exact g_val (.agg (L.lv (za) (na))) hS (wanted_yes rfl rfl rfl eg) (run_op_load_lab rfl e3 (HA.out.below hS HA.out.lt)) rfl
      · go_light; intro listed a' w' hs hS hun hdep
        have eg : a'.eval (.tmp 87) = .bool true := hs.eval 22 _ 87 rfl (hdep ⟨22, .guard⟩ (by simp) rfl) rfl
        have e89 : a'.eval (.tmp 89) = .agg (L.lv (za) (na)) := hs.eval 24 _ 89 rfl (hdep ⟨24, .data⟩ (by simp) rfl) rfl
        have e90 : a'.eval (.tmp 90) = .agg (L.lv (za) (na)) := hs.eval 25 _ 90 rfl (hdep ⟨25, .data⟩ (by simp) rfl) rfl
        exact g_val (.bool true) hS (wanted_yes rfl rfl rfl eg) (run_op_same_lab rfl e89 e90 hna) rfl
      · go_light; intro listed a' w' hs hS hun hdep
        have e87 : a'.eval (.tmp 87) = .bool true := hs.eval 22 _ 87 rfl (hdep ⟨22, .data⟩ (by simp) rfl) rfl
        have e91 : a'.eval (.tmp 91) = .bool true := hs.eval 26 _ 91 rfl (hdep ⟨26, .data⟩ (by simp) rfl) rfl
        refine g_val (.bool true) hS rfl ?_ rfl
        have hcn := BigFrame.eval_const a'
        have hfn := BigFrame.eval_func a'
        clear hs hdep
        generalize a'.eval = ev at *
        go_simp
      · go_light; intro listed a' w' hs hS hun hdep
        have e92 : a'.eval (.tmp 92) = .bool true := hs.eval 27 _ 92 rfl (hdep ⟨27, .data⟩ (by simp) rfl) rfl
        refine g_val (.bool true) hS rfl ?_ rfl
        have hcn := BigFrame.eval_const a'
        have hfn := BigFrame.eval_func a'
        clear hs hdep
        generalize a'.eval = ev at *
        go_simp
      · go_light; intro listed a' w' hs hS hun hdep
        have eg : a'.eval (.tmp 93) = .bool true := hs.eval 28 _ 93 rfl (hdep ⟨28, .guard⟩ (by simp) rfl) rfl
        have e3 : a'.eval (.tmp 3) = .pointer (some ⟨w.heap.size, 0, none⟩) := (hs.out 3 (by kernel_rfl)).trans (rfl)
        exact g_val (.agg (L.lv (za) (na))) hS (wanted_yes rfl rfl rfl eg) (run_op_load_lab rfl e3 (HA.out.below hS HA.out.lt)) rfl
      · go_light; intro listed a' w' hs hS hun hdep
        have eg : a'.eval (.tmp 93) = .bool true := hs.eval 28 _ 93 rfl (hdep ⟨28, .guard⟩ (by simp) rfl) rfl
        have e7 : a'.eval (.tmp 7) = .pointer (some ⟨gj, 0, none⟩) := (hs.out 7 (by kernel_rfl)).trans (rfl)
        exact g_val (.agg (L.lv (zj) (nj))) hS (wanted_yes rfl rfl rfl eg) (run_op_load_lab rfl e7 (HJ.out.below hS HJ.out.lt)) rfl
      · go_light; intro listed a' w' hs hS hun hdep
        have eg : a'.eval (.tmp 93) = .bool true := hs.eval 28 _ 93 rfl (hdep ⟨28, .guard⟩ (by simp) rfl) rfl
        have e95 : a'.eval (.tmp 95) = .agg (L.lv (zj) (nj)) := hs.eval 30 _ 95 rfl (hdep ⟨30, .data⟩ (by simp) rfl) rfl
        exact g_new (.slice (some ⟨w'.heap.size, 0, none⟩) 1 1) _ hS (wanted_yes rfl rfl rfl eg) (run_op_labs [(zj, nj)] rfl (by simp [e95, labV]) rfl (by simp) (by simp)) ⟨w'.heap.size, Below.size hS, rfl, heap_alloc_new w' _⟩
      · go_light; intro listed a' w' hs hS hun hdep
        have eg : a'.eval (.tmp 93) = .bool true := hs.eval 28 _ 93 rfl (hdep ⟨28, .guard⟩ (by simp) rfl) rfl
        have e94 : a'.eval (.tmp 94) = .agg (L.lv (za) (na)) := hs.eval 29 _ 94 rfl (hdep ⟨29, .data⟩ (by simp) rfl) rfl
        have r96 : (.row (labsX [(zj, nj)]) 39 1 : GV).ok W1'.heap.size (a'.eval (.tmp 96)) w' := hs.eval 31 _ 96 rfl (hdep ⟨31, .data⟩ (by simp) rfl)  rfl
        obtain ⟨b96, _, e96, k96⟩ := r96
        refine g_call 34 #[.agg (L.lv (za) (na)), .slice (some ⟨b96, 0, none⟩) 1 1] hS (wanted_yes rfl rfl rfl eg) ?_ ?_
        · have hcn := BigFrame.eval_const a'; have hfn := BigFrame.eval_func a'; clear hs hdep; generalize a'.eval = ev at *; go_simp
        · exact c_val (H97.out b96 w' k96) rfl
      · go_light; intro listed a' w' hs hS hun hdep
        have eg : a'.eval (.tmp 93) = .bool true := hs.eval 28 _ 93 rfl (hdep ⟨28, .guard⟩ (by simp) rfl) rfl
        have e3 : a'.eval (.tmp 3) = .pointer (some ⟨w.heap.size, 0, none⟩) := (hs.out 3 (by kernel_rfl)).trans (rfl)
        exact g_val (.agg (L.lv (za) (na))) hS (wanted_yes rfl rfl rfl eg) (run_op_load_lab rfl e3 (HA.out.below hS HA.out.lt)) rfl
      · go_light; intro listed a' w' hs hS hun hdep
        have eg : a'.eval (.tmp 93) = .bool true := hs.eval 28 _ 93 rfl (hdep ⟨28, .guard⟩ (by simp) rfl) rfl
        have e97 : a'.eval (.tmp 97) = .agg (L.lv (za) (na)) := hs.eval 32 _ 97 rfl (hdep ⟨32, .data⟩ (by simp) rfl) rfl
        have e98 : a'.eval (.tmp 98) = .agg (L.lv (za) (na)) := hs.eval 33 _ 98 rfl (hdep ⟨33, .data⟩ (by simp) rfl) rfl
        exact g_val (.bool true) hS (wanted_yes rfl rfl rfl eg) (run_op_same_lab rfl e97 e98 hna) rfl
      · go_light; intro listed a' w' hs hS hun hdep
        have e93 : a'.eval (.tmp 93) = .bool true := hs.eval 28 _ 93 rfl (hdep ⟨28, .data⟩ (by simp) rfl) rfl
        have e99 : a'.eval (.tmp 99) = .bool true := hs.eval 34 _ 99 rfl (hdep ⟨34, .data⟩ (by simp) rfl) rfl
        refine g_val (.bool true) hS rfl ?_ rfl
        have hcn := BigFrame.eval_const a'
        have hfn := BigFrame.eval_func a'
        clear hs hdep
        generalize a'.eval = ev at *
        go_simp
      · go_light; intro listed a' w' hs hS hun hdep
        have e100 : a'.eval (.tmp 100) = .bool true := hs.eval 35 _ 100 rfl (hdep ⟨35, .data⟩ (by simp) rfl) rfl
        refine g_val (.bool true) hS rfl ?_ rfl
        have hcn := BigFrame.eval_const a'
        have hfn := BigFrame.eval_func a'
        clear hs hdep
        generalize a'.eval = ev at *
        go_simp
      · go_light; intro listed a' w' hs hS hun hdep
        have eg : a'.eval (.tmp 101) = .bool true := hs.eval 36 _ 101 rfl (hdep ⟨36, .guard⟩ (by simp) rfl) rfl
        have e3 : a'.eval (.tmp 3) = .pointer (some ⟨w.heap.size, 0, none⟩) := (hs.out 3 (by kernel_rfl)).trans (rfl)
        exact g_val (.agg (L.lv (za) (na))) hS (wanted_yes rfl rfl rfl eg) (run_op_load_lab rfl e3 (HA.out.below hS HA.out.lt)) rfl
      · go_light; intro listed a' w' hs hS hun hdep
        have eg : a'.eval (.tmp 101) = .bool true := hs.eval 36 _ 101 rfl (hdep ⟨36, .guard⟩ (by simp) rfl) rfl
        have e8 : a'.eval (.tmp 8) = .pointer (some ⟨gm, 0, none⟩) := (hs.out 8 (by kernel_rfl)).trans (rfl)
        exact g_val (.agg (L.lv (zm) (nm))) hS (wanted_yes rfl rfl rfl eg) (run_op_load_lab rfl e8 (HM.out.below hS HM.out.lt)) rfl
      · go_light; intro listed a' w' hs hS hun hdep
        have eg : a'.eval (.tmp 101) = .bool true := hs.eval 36 _ 101 rfl (hdep ⟨36, .guard⟩ (by simp) rfl) rfl
        have e103 : a'.eval (.tmp 103) = .agg (L.lv (zm) (nm)) := hs.eval 38 _ 103 rfl (hdep ⟨38, .data⟩ (by simp) rfl) rfl
        exact g_new (.slice (some ⟨w'.heap.size, 0, none⟩) 1 1) _ hS (wanted_yes rfl rfl rfl eg) (run_op_labs [(zm, nm)] rfl (by simp [e103, labV]) rfl (by simp) (by simp)) ⟨w'.heap.size, Below.size hS, rfl, heap_alloc_new w' _⟩
      · go_light; intro listed a' w' hs hS hun hdep
        have eg : a'.eval (.tmp 101) = .bool true := hs.eval 36 _ 101 rfl (hdep ⟨36, .guard⟩ (by simp) rfl) rfl
        have e102 : a'.eval (.tmp 102) = .agg (L.lv (za) (na)) := hs.eval 37 _ 102 rfl (hdep ⟨37, .data⟩ (by simp) rfl) rfl
        have r104 : (.row (labsX [(zm, nm)]) 39 1 : GV).ok W1'.heap.size (a'.eval (.tmp 104)) w' := hs.eval 39 _ 104 rfl (hdep ⟨39, .data⟩ (by simp) rfl)  rfl
        obtain ⟨b104, _, e104, k104⟩ := r104
        refine g_call 33 #[.agg (L.lv (za) (na)), .slice (some ⟨b104, 0, none⟩) 1 1] hS (wanted_yes rfl rfl rfl eg) ?_ ?_
        · have hcn := BigFrame.eval_const a'; have hfn := BigFrame.eval_func a'; clear hs hdep; generalize a'.eval = ev at *; go_simp
        · exact c_val (H105.out b104 w' k104) rfl
      · go_light; intro listed a' w' hs hS hun hdep
        have eg : a'.eval (.tmp 101) = .bool true := hs.eval 36 _ 101 rfl (hdep ⟨36, .guard⟩ (by simp) rfl) rfl
        have e3 : a'.eval (.tmp 3) = .pointer (some ⟨w.heap.size, 0, none⟩) := (hs.out 3 (by kernel_rfl)).trans (rfl)
        exact g_val (.agg (L.lv (za) (na))) hS (wanted_yes rfl rfl rfl eg) (run_op_load_lab rfl e3 (HA.out.below hS HA.out.lt)) rfl
      · go_light; intro listed a' w' hs hS hun hdep
        have eg : a'.eval (.tmp 101) = .bool true := hs.eval 36 _ 101 rfl (hdep ⟨36, .guard⟩ (by simp) rfl) rfl
        have e105 : a'.eval (.tmp 105) = .agg (L.lv (za) (na)) := hs.eval 40 _ 105 rfl (hdep ⟨40, .data⟩ (by simp) rfl) rfl
        have e106 : a'.eval (.tmp 106) = .agg (L.lv (za) (na)) := hs.eval 41 _ 106 rfl (hdep ⟨41, .data⟩ (by simp) rfl) rfl
        exact g_val (.bool true) hS (wanted_yes rfl rfl rfl eg) (run_op_same_lab rfl e105 e106 hna) rfl
      · go_light; intro listed a' w' hs hS hun hdep
        have e101 : a'.eval (.tmp 101) = .bool true := hs.eval 36 _ 101 rfl (hdep ⟨36, .data⟩ (by simp) rfl) rfl
        have e107 : a'.eval (.tmp 107) = .bool true := hs.eval 42 _ 107 rfl (hdep ⟨42, .data⟩ (by simp) rfl) rfl
        refine g_val (.bool true) hS rfl ?_ rfl
        have hcn := BigFrame.eval_const a'
        have hfn := BigFrame.eval_func a'
        clear hs hdep
        generalize a'.eval = ev at *
        go_simp
      · go_light; intro listed a' w' hs hS hun hdep
        have e108 : a'.eval (.tmp 108) = .bool true := hs.eval 43 _ 108 rfl (hdep ⟨43, .data⟩ (by simp) rfl) rfl
        refine g_val (.bool true) hS rfl ?_ rfl
        have hcn := BigFrame.eval_const a'
        have hfn := BigFrame.eval_func a'
        clear hs hdep
        generalize a'.eval = ev at *
        go_simp
      · go_light; intro listed a' w' hs hS hun hdep
        have eg : a'.eval (.tmp 109) = .bool true := hs.eval 44 _ 109 rfl (hdep ⟨44, .guard⟩ (by simp) rfl) rfl
        refine g_call 32 #[] hS (wanted_yes rfl rfl rfl eg) ?_ ?_
        · have hcn := BigFrame.eval_const a'; have hfn := BigFrame.eval_func a'; clear hs hdep; generalize a'.eval = ev at *; go_simp
        · exact c_val (lab_awake w' (HL.out.below hS)) rfl
      · go_light; intro listed a' w' hs hS hun hdep
        have e109 : a'.eval (.tmp 109) = .bool true := hs.eval 44 _ 109 rfl (hdep ⟨44, .data⟩ (by simp) rfl) rfl
        have e110 : a'.eval (.tmp 110) = .bool true := hs.eval 45 _ 110 rfl (hdep ⟨45, .data⟩ (by simp) rfl) rfl
        refine g_val (.bool true) hS rfl ?_ rfl
        have hcn := BigFrame.eval_const a'
        have hfn := BigFrame.eval_func a'
        clear hs hdep
        generalize a'.eval = ev at *
        go_simp
      · go_light; intro listed a' w' hs hS hun hdep
        have e111 : a'.eval (.tmp 111) = .bool true := hs.eval 46 _ 111 rfl (hdep ⟨46, .data⟩ (by simp) rfl) rfl
        refine g_val (.bool true) hS rfl ?_ rfl
        have hcn := BigFrame.eval_const a'
        have hfn := BigFrame.eval_func a'
        clear hs hdep
        generalize a'.eval = ev at *
        go_simp
      · intro vs w11 hlen hV listed hall hS
        obtain ⟨v0, v1, v2, v3, v4, v5, v6, v7, v8, v9, v10, v11, v12, v13, v14, v15, v16, v17, v18, v19, v20, v21, v22, v23, v24, v25, v26, v27, v28, v29, v30, v31, v32, v33, v34, v35, v36, v37, v38, v39, v40, v41, v42, v43, v44, v45, v46, v47, rfl⟩ := vs_48 vs (hlen.trans rfl)
        have q0 : v0 = .agg (L.lv (za) (na)) := hV 0 _ rfl
        have q1 : v1 = .agg (L.lv (zb) (nb)) := hV 1 _ rfl
        have q2 : v2 = .agg (L.lv (zc) (nc)) := hV 2 _ rfl
        obtain ⟨b3, hge3, q3, hbk3⟩ : (.row (labsX [(zb, nb), (zc, nc)]) 39 2 : GV).ok W1'.heap.size v3 w11 := hV 3 _ rfl
        have q4 : v4 = .agg (L.lv (z3) (n3)) := hV 4 _ rfl
        have q5 : v5 = .agg (L.lv (zc) (nc)) := hV 5 _ rfl
        have q6 : v6 = .agg (L.lv (zj) (nj)) := hV 6 _ rfl
        obtain ⟨b7, hge7, q7, hbk7⟩ : (.row (labsX [(zj, nj)]) 39 1 : GV).ok W1'.heap.size v7 w11 := hV 7 _ rfl
        have q8 : v8 = .agg (L.lv (z3) (n3)) := hV 8 _ rfl
        have q9 : v9 = .bool true := hV 9 _ rfl
        have q10 : v10 = .bool true := hV 10 _ rfl
        have q11 : v11 = .agg (L.lv (za) (na)) := hV 11 _ rfl
        have q12 : v12 = .agg (L.lv (zb) (nb)) := hV 12 _ rfl
        have q13 : v13 = .agg (L.lv (zc) (nc)) := hV 13 _ rfl
        obtain ⟨b14, hge14, q14, hbk14⟩ : (.row (labsX [(zb, nb), (zc, nc)]) 39 2 : GV).ok W1'.heap.size v14 w11 := hV 14 _ rfl
        have q15 : v15 = .agg (L.lv (y3) (m3)) := hV 15 _ rfl
        have q16 : v16 = .agg (L.lv (zc) (nc)) := hV 16 _ rfl
        have q17 : v17 = .agg (L.lv (zm) (nm)) := hV 17 _ rfl
        obtain ⟨b18, hge18, q18, hbk18⟩ : (.row (labsX [(zm, nm)]) 39 1 : GV).ok W1'.heap.size v18 w11 := hV 18 _ rfl
        have q19 : v19 = .agg (L.lv (y3) (m3)) := hV 19 _ rfl
        have q20 : v20 = .bool true := hV 20 _ rfl
        have q21 : v21 = .bool true := hV 21 _ rfl
        have q22 : v22 = .bool true := hV 22 _ rfl
        have q23 : v23 = .agg (L.lv (za) (na)) := hV 23 _ rfl
        have q24 : v24 = .agg (L.lv (za) (na)) := hV 24 _ rfl
        have q25 : v25 = .agg (L.lv (za) (na)) := hV 25 _ rfl
        have q26 : v26 = .bool true := hV 26 _ rfl
        have q27 : v27 = .bool true := hV 27 _ rfl
        have q28 : v28 = .bool true := hV 28 _ rfl
        have q29 : v29 = .agg (L.lv (za) (na)) := hV 29 _ rfl
        have q30 : v30 = .agg (L.lv (zj) (nj)) := hV 30 _ rfl
        obtain ⟨b31, hge31, q31, hbk31⟩ : (.row (labsX [(zj, nj)]) 39 1 : GV).ok W1'.heap.size v31 w11 := hV 31 _ rfl
        have q32 : v32 = .agg (L.lv (za) (na)) := hV 32 _ rfl
        have q33 : v33 = .agg (L.lv (za) (na)) := hV 33 _ rfl
        have q34 : v34 = .bool true := hV 34 _ rfl
        have q35 : v35 = .bool true := hV 35 _ rfl
        have q36 : v36 = .bool true := hV 36 _ rfl
        have q37 : v37 = .agg (L.lv (za) (na)) := hV 37 _ rfl
        have q38 : v38 = .agg (L.lv (zm) (nm)) := hV 38 _ rfl
        obtain ⟨b39, hge39, q39, hbk39⟩ : (.row (labsX [(zm, nm)]) 39 1 : GV).ok W1'.heap.size v39 w11 := hV 39 _ rfl
        have q40 : v40 = .agg (L.lv (za) (na)) := hV 40 _ rfl
        have q41 : v41 = .agg (L.lv (za) (na)) := hV 41 _ rfl
        have q42 : v42 = .bool true := hV 42 _ rfl
        have q43 : v43 = .bool true := hV 43 _ rfl
        have q44 : v44 = .bool true := hV 44 _ rfl
        have q45 : v45 = .bool true := hV 45 _ rfl
        have q46 : v46 = .bool true := hV 46 _ rfl
        have q47 : v47 = .bool true := hV 47 _ rfl
        have hbel : Below W1'.heap.size W1' w11 := hS
        subst q0 q1 q2 q3 q4 q5 q6 q7 q8 q9 q10 q11 q12 q13 q14 q15 q16 q17 q18 q19 q20 q21 q22 q23 q24 q25 q26 q27 q28 q29 q30 q31 q32 q33 q34 q35 q36 q37 q38 q39 q40 q41 q42 q43 q44 q45 q46 q47
        clear hV hS hall
        simp only [lays, Act.put, List.setIfInBounds_toArray, List.set_cons_zero, List.set_cons_succ]
        go_wp2
        go_ret
        exact ⟨rfl, hb10.trans (hbel.mono hb10.size)⟩
#print axioms lattice_all
end LbLat
end Go.Proofs.YtmaddfjgiflkbaaDoor
