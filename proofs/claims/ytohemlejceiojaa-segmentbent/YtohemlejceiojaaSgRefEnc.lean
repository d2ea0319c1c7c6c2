/- The document's answer for a segment's bytes. -/
import Derived.Test.YtohemlejceiojaaSgBack
import Derived.Test.YtohemlejceiojaaSRef
namespace Go.Proofs.Ytohemlejceiojaa
open Go.RowKit
set_option linter.unusedVariables false
set_option maxRecDepth 100000

theorem two_ba (n : Nat) : two n = ba (be2 n) := by
  unfold two ba be2
  have : UInt8.ofNat (n % 256) = UInt8.ofNat n := by apply UInt8.toNat_inj.1; simp
  rw [this]
theorem rbel_trans (x y z : World) (h : Below x.heap.size x y) (k : Below y.heap.size y z) : Below x.heap.size x z := h.trans (k.mono h.size)
theorem rsg {w : World} {b : Nat} {a1 a2 a3 a4 a5 a6 : Int} {g : ByteArray} (h : w.heap[b]? = some (sgO a1 a2 a3 a4 a5 a6 g)) (i : Nat) (v : Value) (hv : (#[.int .i64 a1, .int .i64 a2, .int .u32 a3, .int .u32 a4, .int .i64 a5, .int .i64 a6, .string g] : Array Value)[i]? = some v) : w.cell? ⟨b, i, none⟩ = some v := by
  simp only [World.cell?, h]; exact hv
theorem rword_any (a : Nat) (w : World) (ha : a < 4294967296) :
    Calls Try.prog 21 #[.int .u32 a] w fun e w' => e = .returned (.string (ba (word a))) ∧ Below w.heap.size w w' := by
  have hcells : ∀ j (hj : j < (word a).length), (w.alloc (.cells #[.int .u8 ((a : Int) / 16777216), .int .u8 ((a : Int) / 65536 % 256), .int .u8 ((a : Int) / 256 % 256), .int .u8 ((a : Int) % 256)] 5)).cell? ((⟨w.heap.size, 0, none⟩ : Addr).add j) = some (.int .u8 ((word a)[j].toNat : Int)) := by
    intro j hj
    rw [Addr.add_lit, Nat.zero_add, World.cell?_alloc_new]
    match j, hj with
    | 0, _ => simp [word]; omega
    | 1, _ => simp [word]
    | 2, _ => simp [word]
    | 3, _ => simp [word]
  have hcv : (convert 35 9 (.slice (some ⟨w.heap.size, 0, none⟩) 4 4)).run Try.prog _ = .ok (.string (ba (word a))) _ := run_convert_bytes_back (P := Try.prog) _ 35 9 5 ⟨w.heap.size, 0, none⟩ 4 _ Try.underlying35 Try.underlying5 Try.underlying9 hcells
  clear hcells
  generalize ba (word a) = s at *
  go_enter Try.func21, Try.ntmps21
  go_wp2
  go_ret
  exact ⟨rfl, (Below.refl _ _).alloc (Nat.le_refl _) _⟩
theorem ofs_cat (P X d : ByteArray) (h : List UInt8) (e : X.data.toList = h ++ d.data.toList) : M.ofs [P ++ X] = M.ofs [P, ba h, d] := by
  unfold M.ofs
  congr 2
  show M.acc true ((List.map (fun s : ByteArray => s.data.toList) [P ++ X]).flatten) = M.acc true ((List.map (fun s : ByteArray => s.data.toList) [P, ba h, d]).flatten)
  simp [ByteArray.data_append, e, ba_list]


theorem told6 : S.told 6 0 = 0 := by unfold S.told; rw [if_neg (fun h => absurd h.1 (by decide))]
theorem told17 : S.told 17 0 = 65535 := by unfold S.told; rw [if_pos ⟨rfl, rfl⟩]

set_option maxHeartbeats 2000000 in
theorem renc6 (src dst sp dp sq ak fl wi : Nat) (d : ByteArray) (w : World) (hsrc : src < 4294967296) (hdst : dst < 4294967296) (h1 : sp ≤ 65535) (h2 : dp ≤ 65535) (h3 : sq < 4294967296) (h4 : ak < 4294967296) (h5 : fl ≤ 63) (h6 : wi ≤ 65535) (hd : d.size ≤ 65495) :
    Calls Try.prog 10 #[.int .i64 6, .int .u32 src, .int .u32 dst, sg sp dp sq ak fl wi d] w fun e w' => e = .returned (.string (ba (S.enc6 src dst sp dp sq ak fl wi d))) ∧ Below w.heap.size w w' := by
  have H1 := Lib.hid (fun w => short_any sp w h1)
  have H2 := Lib.hid (fun w => short_any dp w h2)
  have H8 := Lib.hid (fun w => short_any (8 + d.size) w (by omega))
  rw [show ((8 + d.size : Nat) : Int) = 8 + (d.size : Int) from by omega] at H8
  have z1 : (two sp).size = 2 := rfl
  have z2 : (two dp).size = 2 := rfl
  have z8 : (two (8 + d.size)).size = 2 := rfl
  have H3 := Lib.hid (fun w => short_any (20480 + fl) w (by omega))
  rw [show ((20480 + fl : Nat) : Int) = 20480 + (fl : Int) from by omega] at H3
  have H4 := Lib.hid (fun w => short_any wi w h6)
  have HQ := Lib.hid (fun w => rword_any sq w h3)
  have HK := Lib.hid (fun w => rword_any ak w h4)
  have z3 : (two (20480 + fl)).size = 2 := rfl
  have z4 : (two wi).size = 2 := rfl
  have y1 : (ba (word sq)).size = 4 := rfl
  have y2 : (ba (word ak)).size = 4 := rfl
  have hx : (two sp ++ two dp ++ (ba (word sq) ++ ba (word ak) ++ two (20480 + fl) ++ two wi) ++ (⟨#[0, 0]⟩ : ByteArray) ++ ((⟨#[0, 0]⟩ : ByteArray) ++ d)).data.toList = S.head6 sp dp sq ak fl wi ++ d.data.toList := by
    simp [ByteArray.data_append, two_ba, ba_list, S.head6, S.pre6]
  have hxs : (two sp ++ two dp ++ (ba (word sq) ++ ba (word ak) ++ two (20480 + fl) ++ two wi) ++ (⟨#[0, 0]⟩ : ByteArray) ++ ((⟨#[0, 0]⟩ : ByteArray) ++ d)).size = 20 + d.size := by
    simp [ByteArray.size_append, z1, z2, z3, z4, y1, y2, show (⟨#[0, 0]⟩ : ByteArray).size = 2 from rfl]
    omega
  have HN : Hid (∀ P : ByteArray, P = ba (pseudo src dst 6 ((20 + d.size : Nat) : Int)) → M.ofs [P ++ (two sp ++ two dp ++ (ba (word sq) ++ ba (word ak) ++ two (20480 + fl) ++ two wi) ++ (⟨#[0, 0]⟩ : ByteArray) ++ ((⟨#[0, 0]⟩ : ByteArray) ++ d))] = M.ofs [P, ba (S.head6 sp dp sq ak fl wi), d]) := Lib.hid (fun P _ => ofs_cat P _ d _ hx)
  have HE : Hid (∀ N, (two sp ++ two dp ++ (ba (word sq) ++ ba (word ak) ++ two (20480 + fl) ++ two wi) ++ two N ++ ((⟨#[0, 0]⟩ : ByteArray) ++ d)) = ba (S.put (S.head6 sp dp sq ak fl wi) 16 N d)) := Lib.hid (fun N => by
    have : (two sp ++ two dp ++ (ba (word sq) ++ ba (word ak) ++ two (20480 + fl) ++ two wi) ++ two N ++ ((⟨#[0, 0]⟩ : ByteArray) ++ d)).data.toList = (ba (S.put (S.head6 sp dp sq ak fl wi) 16 N d)).data.toList := by
      simp [ByteArray.data_append, two_ba, ba_list, S.put, S.head6, S.pre6, be2, word]
    exact ByteArray.ext (Array.toList_inj.1 this))
  have HC : Hid (S.told 6 (M.ofs [ba (pseudo src dst 6 ((20 + d.size : Nat) : Int)), ba (S.head6 sp dp sq ak fl wi), d]) = S.cks 6 src dst (S.head6 sp dp sq ak fl wi) d) := Lib.hid (by unfold S.cks; rw [S.head6_length])
  generalize two sp = s1 at *
  generalize two dp = s2 at *
  generalize two (8 + d.size) = s8 at *
  generalize two (20480 + fl) = s3 at *
  generalize two wi = s4 at *
  generalize ba (word sq) = q1 at *
  generalize ba (word ak) = q2 at *
  have hb0 : Below w.heap.size w (w.alloc (sgO sp dp sq ak fl wi d)) := (Below.refl _ w).alloc (Nat.le_refl _) _
  have hc0 : (w.alloc (sgO sp dp sq ak fl wi d)).heap[w.heap.size]? = some (sgO sp dp sq ak fl wi d) := heap_alloc_new w _
  clear hx
  go_enter Try.func10, Try.ntmps10
  go_wp2
  generalize hB : w.heap.size = B at *
  generalize w.alloc (sgO sp dp sq ak fl wi d) = w0 at *
  refine region_walk (fun y => y.heap[B]? = some (sgO sp dp sq ak fl wi d)) (fun x y => Below x.heap.size x y) (by kernel_rfl) (by kernel_rfl) (by kernel_rfl) (fun x => Below.refl _ x) rbel_trans (fun x y hx hr => (hr.block B (lt_of_block hx)).trans hx) hc0 ?_
  apply Exists.intro
  refine ⟨?_, ?_⟩
  · skip
    refine ⟨.pointer (some ⟨B, 0, none⟩), .inl ⟨by rfl, fun w' hw' => ?_⟩, ?_⟩
    · go_simp
    simp only [Act.put, List.setIfInBounds_toArray, List.set_cons_zero, List.set_cons_succ]
    refine ⟨.int .i64 (sp : Nat), .inl ⟨by rfl, fun w' hw' => ?_⟩, ?_⟩
    · have kk := rsg hw' 0 _ rfl
      go_simp
    simp only [Act.put, List.setIfInBounds_toArray, List.set_cons_zero, List.set_cons_succ]
    refine ⟨.string s1, .inl ⟨by rfl, fun w' hw' => ?_⟩, ?_⟩
    · go_simp
      exact H1.out w'
    simp only [Act.put, List.setIfInBounds_toArray, List.set_cons_zero, List.set_cons_succ]
    refine ⟨.pointer (some ⟨B, 1, none⟩), .inl ⟨by rfl, fun w' hw' => ?_⟩, ?_⟩
    · go_simp
    simp only [Act.put, List.setIfInBounds_toArray, List.set_cons_zero, List.set_cons_succ]
    refine ⟨.int .i64 (dp : Nat), .inl ⟨by rfl, fun w' hw' => ?_⟩, ?_⟩
    · have kk := rsg hw' 1 _ rfl
      go_simp
    simp only [Act.put, List.setIfInBounds_toArray, List.set_cons_zero, List.set_cons_succ]
    refine ⟨.string s2, .inl ⟨by rfl, fun w' hw' => ?_⟩, ?_⟩
    · go_simp
      exact H2.out w'
    simp only [Act.put, List.setIfInBounds_toArray, List.set_cons_zero, List.set_cons_succ]
    refine ⟨.string (s1 ++ s2), .inl ⟨by rfl, fun w' hw' => ?_⟩, ?_⟩
    · go_simp
    simp only [Act.put, List.setIfInBounds_toArray, List.set_cons_zero, List.set_cons_succ]
    refine ⟨.string (s1 ++ s2), .inl ⟨by rfl, fun w' hw' => ?_⟩, ?_⟩
    · go_simp
    simp only [Act.put, List.setIfInBounds_toArray, List.set_cons_zero, List.set_cons_succ]
    rfl
  intro w1 hc1 hr1
  have hbw1 : Below B w w1 := hb0.trans (((Below.refl _ _).drew.trans hr1).mono (by have := hb0.size; rw [hB] at this; simpa using this))
  have l6 := rsg hc1 6 _ rfl
  clear hr1 hb0 hc0
  go_wp2_with fail
  refine (H8.out _).mono ?_
  rintro e w2 ⟨rfl, hb2⟩
  have hc2 := (hb2.block B (lt_of_block hc1)).trans hc1
  have hbw2 : Below B w w2 := hbw1.trans (hb2.mono (by have := hbw1.size; rw [hB] at this; exact this))
  have l6 := rsg hc2 6 _ rfl
  clear hb2 hc1 hbw1
  go_wp2
  refine region_walk (fun y => y.heap[B]? = some (sgO sp dp sq ak fl wi d)) (fun x y => Below x.heap.size x y) (by kernel_rfl) (by kernel_rfl) (by kernel_rfl) (fun x => Below.refl _ x) rbel_trans (fun x y hx hr => (hr.block B (lt_of_block hx)).trans hx) hc2 ?_
  apply Exists.intro
  refine ⟨?_, ?_⟩
  · skip
    refine ⟨.pointer (some ⟨B, 2, none⟩), .inl ⟨by rfl, fun w' hw' => ?_⟩, ?_⟩
    · go_simp
    simp only [Act.put, List.setIfInBounds_toArray, List.set_cons_zero, List.set_cons_succ]
    refine ⟨.int .u32 (sq : Nat), .inl ⟨by rfl, fun w' hw' => ?_⟩, ?_⟩
    · have kk := rsg hw' 2 _ rfl
      go_simp
    simp only [Act.put, List.setIfInBounds_toArray, List.set_cons_zero, List.set_cons_succ]
    refine ⟨.string q1, .inl ⟨by rfl, fun w' hw' => ?_⟩, ?_⟩
    · go_simp
      exact HQ.out w'
    simp only [Act.put, List.setIfInBounds_toArray, List.set_cons_zero, List.set_cons_succ]
    refine ⟨.pointer (some ⟨B, 3, none⟩), .inl ⟨by rfl, fun w' hw' => ?_⟩, ?_⟩
    · go_simp
    simp only [Act.put, List.setIfInBounds_toArray, List.set_cons_zero, List.set_cons_succ]
    refine ⟨.int .u32 (ak : Nat), .inl ⟨by rfl, fun w' hw' => ?_⟩, ?_⟩
    · have kk := rsg hw' 3 _ rfl
      go_simp
    simp only [Act.put, List.setIfInBounds_toArray, List.set_cons_zero, List.set_cons_succ]
    refine ⟨.string q2, .inl ⟨by rfl, fun w' hw' => ?_⟩, ?_⟩
    · go_simp
      exact HK.out w'
    simp only [Act.put, List.setIfInBounds_toArray, List.set_cons_zero, List.set_cons_succ]
    refine ⟨.string (q1 ++ q2), .inl ⟨by rfl, fun w' hw' => ?_⟩, ?_⟩
    · go_simp
    simp only [Act.put, List.setIfInBounds_toArray, List.set_cons_zero, List.set_cons_succ]
    refine ⟨.pointer (some ⟨B, 4, none⟩), .inl ⟨by rfl, fun w' hw' => ?_⟩, ?_⟩
    · go_simp
    simp only [Act.put, List.setIfInBounds_toArray, List.set_cons_zero, List.set_cons_succ]
    refine ⟨.int .i64 (fl : Nat), .inl ⟨by rfl, fun w' hw' => ?_⟩, ?_⟩
    · have kk := rsg hw' 4 _ rfl
      go_simp
    simp only [Act.put, List.setIfInBounds_toArray, List.set_cons_zero, List.set_cons_succ]
    refine ⟨.int .i64 (20480 + (fl : Int)), .inl ⟨by rfl, fun w' hw' => ?_⟩, ?_⟩
    · go_simp
      exact IntWalk.i64_in _ (by omega)
    simp only [Act.put, List.setIfInBounds_toArray, List.set_cons_zero, List.set_cons_succ]
    refine ⟨.string s3, .inl ⟨by rfl, fun w' hw' => ?_⟩, ?_⟩
    · go_simp
      exact H3.out w'
    simp only [Act.put, List.setIfInBounds_toArray, List.set_cons_zero, List.set_cons_succ]
    refine ⟨.string (q1 ++ q2 ++ s3), .inl ⟨by rfl, fun w' hw' => ?_⟩, ?_⟩
    · go_simp
    simp only [Act.put, List.setIfInBounds_toArray, List.set_cons_zero, List.set_cons_succ]
    refine ⟨.pointer (some ⟨B, 5, none⟩), .inl ⟨by rfl, fun w' hw' => ?_⟩, ?_⟩
    · go_simp
    simp only [Act.put, List.setIfInBounds_toArray, List.set_cons_zero, List.set_cons_succ]
    refine ⟨.int .i64 (wi : Nat), .inl ⟨by rfl, fun w' hw' => ?_⟩, ?_⟩
    · have kk := rsg hw' 5 _ rfl
      go_simp
    simp only [Act.put, List.setIfInBounds_toArray, List.set_cons_zero, List.set_cons_succ]
    refine ⟨.string s4, .inl ⟨by rfl, fun w' hw' => ?_⟩, ?_⟩
    · go_simp
      exact H4.out w'
    simp only [Act.put, List.setIfInBounds_toArray, List.set_cons_zero, List.set_cons_succ]
    refine ⟨.string (q1 ++ q2 ++ s3 ++ s4), .inl ⟨by rfl, fun w' hw' => ?_⟩, ?_⟩
    · go_simp
    simp only [Act.put, List.setIfInBounds_toArray, List.set_cons_zero, List.set_cons_succ]
    refine ⟨.string (q1 ++ q2 ++ s3 ++ s4), .inl ⟨by rfl, fun w' hw' => ?_⟩, ?_⟩
    · go_simp
    simp only [Act.put, List.setIfInBounds_toArray, List.set_cons_zero, List.set_cons_succ]
    rfl
  intro w3 hc3 hr3
  have hbw3 : Below B w w3 := hbw2.trans (((Below.refl _ _).drew.trans hr3).mono (by have := hbw2.size; rw [hB] at this; simpa using this))
  have l6 := rsg hc3 6 _ rfl
  clear hr3 hbw2 hc2
  have HP : Hid (∀ w, Calls Try.prog 23 #[.int .u32 src, .int .u32 dst, .int .i64 6, .int .i64 ((20 : Int) + (d.size : Int))] w fun e w' => e = .returned (.string (ba (pseudo src dst 6 ((20 : Int) + (d.size : Int))))) ∧ Below w.heap.size w w') := Lib.hid (fun w => refpseudo_any src dst 6 ((20 : Int) + (d.size : Int)) w hsrc hdst)
  rw [show ((20 + d.size : Nat) : Int) = ((20 : Int) + (d.size : Int)) from by omega] at HN HC
  have hPs : (ba (pseudo src dst 6 ((20 : Int) + (d.size : Int)))).size = 12 := rfl
  generalize ba (pseudo src dst 6 ((20 : Int) + (d.size : Int))) = Q at *
  have hof := refof_any (Q ++ (s1 ++ s2 ++ (q1 ++ q2 ++ s3 ++ s4) ++ (⟨#[0, 0]⟩ : ByteArray) ++ ((⟨#[0, 0]⟩ : ByteArray) ++ d)))
  rw [HN.out Q rfl] at hof
  have hN := Mofs_le [Q, ba (S.head6 sp dp sq ak fl wi), d]
  generalize M.ofs [Q, ba (S.head6 sp dp sq ak fl wi), d] = N at *
  clear HN
  go_wp2_with fail
  refine (HP.out _).mono ?_
  rintro e w4 ⟨rfl, hb4⟩
  have hbw4 : Below B w w4 := hbw3.trans (hb4.mono (by have := hbw3.size; rw [hB] at this; exact this))
  clear hb4 hbw3 hc3 l6
  go_wp2_with fail
  refine (hof _ (by rw [ByteArray.size_append, hPs, hxs]; omega)).mono ?_
  rintro e w5 ⟨rfl, rfl⟩
  clear hof HP hPs hxs
  by_cases hN0 : N = 0
  · subst hN0
    have H0 : Hid (∀ w, Calls Try.prog 20 #[.int .i64 0] w fun e w' => e = .returned (.string (two 0)) ∧ Below w.heap.size w w') := Lib.hid (fun w => short_any 0 w (by omega))
    go_wp2_with fail
    have HE0 := Lib.hid (HE.out 0)
    clear HE
    have zT : (two 0).size = 2 := two_size _
    generalize two 0 = T at *
    refine (H0.out _).mono ?_
    rintro e w6 ⟨rfl, hb6⟩
    clear H0
    have hbw6 : Below B w w6 := hbw4.trans (hb6.mono (by have := hbw4.size; rw [hB] at this; exact this))
    go_wp2
    go_ret
    refine ⟨?_, by rw [hB]; exact hbw6⟩
    show Ending.returned (.string (s1 ++ s2 ++ (q1 ++ q2 ++ s3 ++ s4) ++ T ++ ((⟨#[0, 0]⟩ : ByteArray) ++ d))) = _
    rw [HE0.out]
    unfold S.enc6
    rw [← HC.out, told6]
  · have H0 := Lib.hid (fun w => short_any N w hN)
    have hN1 : ¬ (N : Int) = 0 := by omega
    go_wp2_with fail
    have HE0 := Lib.hid (HE.out N)
    clear HE
    have zT : (two N).size = 2 := two_size _
    generalize two N = T at *
    refine (H0.out _).mono ?_
    rintro e w6 ⟨rfl, hb6⟩
    clear H0
    have hbw6 : Below B w w6 := hbw4.trans (hb6.mono (by have := hbw4.size; rw [hB] at this; exact this))
    go_wp2
    go_ret
    refine ⟨?_, by rw [hB]; exact hbw6⟩
    show Ending.returned (.string (s1 ++ s2 ++ (q1 ++ q2 ++ s3 ++ s4) ++ T ++ ((⟨#[0, 0]⟩ : ByteArray) ++ d))) = _
    rw [HE0.out]
    unfold S.enc6
    rw [← HC.out]
    unfold S.told
    rw [if_neg (fun h => hN0 h.2)]

set_option maxHeartbeats 2000000 in
theorem renc17 (src dst sp dp : Nat) (d : ByteArray) (w : World) (hsrc : src < 4294967296) (hdst : dst < 4294967296) (h1 : sp ≤ 65535) (h2 : dp ≤ 65535) (hd : d.size ≤ 65507) :
    Calls Try.prog 10 #[.int .i64 17, .int .u32 src, .int .u32 dst, sg sp dp 0 0 0 0 d] w fun e w' => e = .returned (.string (ba (S.enc17 src dst sp dp d))) ∧ Below w.heap.size w w' := by
  obtain ⟨sq, hsq⟩ : ∃ x : Nat, x = 0 := ⟨0, rfl⟩
  obtain ⟨ak, hak⟩ : ∃ x : Nat, x = 0 := ⟨0, rfl⟩
  obtain ⟨fl, hfl⟩ : ∃ x : Nat, x = 0 := ⟨0, rfl⟩
  obtain ⟨wi, hwi⟩ : ∃ x : Nat, x = 0 := ⟨0, rfl⟩
  rw [show sg sp dp 0 0 0 0 d = sg sp dp sq ak fl wi d from by rw [hsq, hak, hfl, hwi]; rfl]
  clear hsq hak hfl hwi
  have H1 := Lib.hid (fun w => short_any sp w h1)
  have H2 := Lib.hid (fun w => short_any dp w h2)
  have H8 := Lib.hid (fun w => short_any (8 + d.size) w (by omega))
  rw [show ((8 + d.size : Nat) : Int) = 8 + (d.size : Int) from by omega] at H8
  have z1 : (two sp).size = 2 := rfl
  have z2 : (two dp).size = 2 := rfl
  have z8 : (two (8 + d.size)).size = 2 := rfl
  have hx : (two sp ++ two dp ++ two (8 + d.size) ++ (⟨#[0, 0]⟩ : ByteArray) ++ d).data.toList = S.head17 sp dp d.size ++ d.data.toList := by
    simp [ByteArray.data_append, two_ba, ba_list, S.head17, S.pre17]
  have hxs : (two sp ++ two dp ++ two (8 + d.size) ++ (⟨#[0, 0]⟩ : ByteArray) ++ d).size = 8 + d.size := by
    simp [ByteArray.size_append, z1, z2, z8, show (⟨#[0, 0]⟩ : ByteArray).size = 2 from rfl]
  have HN : Hid (∀ P : ByteArray, P = ba (pseudo src dst 17 ((8 + d.size : Nat) : Int)) → M.ofs [P ++ (two sp ++ two dp ++ two (8 + d.size) ++ (⟨#[0, 0]⟩ : ByteArray) ++ d)] = M.ofs [P, ba (S.head17 sp dp d.size), d]) := Lib.hid (fun P _ => ofs_cat P _ d _ hx)
  have HE : Hid (∀ N, (two sp ++ two dp ++ two (8 + d.size) ++ two N ++ d) = ba (S.put (S.head17 sp dp d.size) 6 N d)) := Lib.hid (fun N => by
    have : (two sp ++ two dp ++ two (8 + d.size) ++ two N ++ d).data.toList = (ba (S.put (S.head17 sp dp d.size) 6 N d)).data.toList := by
      simp [ByteArray.data_append, two_ba, ba_list, S.put, S.head17, S.pre17, be2]
    exact ByteArray.ext (Array.toList_inj.1 this))
  have HC : Hid (S.told 17 (M.ofs [ba (pseudo src dst 17 ((8 + d.size : Nat) : Int)), ba (S.head17 sp dp d.size), d]) = S.cks 17 src dst (S.head17 sp dp d.size) d) := Lib.hid (by unfold S.cks; rw [S.head17_length])
  generalize two sp = s1 at *
  generalize two dp = s2 at *
  generalize two (8 + d.size) = s8 at *
  have hb0 : Below w.heap.size w (w.alloc (sgO sp dp sq ak fl wi d)) := (Below.refl _ w).alloc (Nat.le_refl _) _
  have hc0 : (w.alloc (sgO sp dp sq ak fl wi d)).heap[w.heap.size]? = some (sgO sp dp sq ak fl wi d) := heap_alloc_new w _
  clear hx
  go_enter Try.func10, Try.ntmps10
  go_wp2
  generalize hB : w.heap.size = B at *
  generalize w.alloc (sgO sp dp sq ak fl wi d) = w0 at *
  refine region_walk (fun y => y.heap[B]? = some (sgO sp dp sq ak fl wi d)) (fun x y => Below x.heap.size x y) (by kernel_rfl) (by kernel_rfl) (by kernel_rfl) (fun x => Below.refl _ x) rbel_trans (fun x y hx hr => (hr.block B (lt_of_block hx)).trans hx) hc0 ?_
  apply Exists.intro
  refine ⟨?_, ?_⟩
  · skip
    refine ⟨.pointer (some ⟨B, 0, none⟩), .inl ⟨by rfl, fun w' hw' => ?_⟩, ?_⟩
    · go_simp
    simp only [Act.put, List.setIfInBounds_toArray, List.set_cons_zero, List.set_cons_succ]
    refine ⟨.int .i64 (sp : Nat), .inl ⟨by rfl, fun w' hw' => ?_⟩, ?_⟩
    · have kk := rsg hw' 0 _ rfl
      go_simp
    simp only [Act.put, List.setIfInBounds_toArray, List.set_cons_zero, List.set_cons_succ]
    refine ⟨.string s1, .inl ⟨by rfl, fun w' hw' => ?_⟩, ?_⟩
    · go_simp
      exact H1.out w'
    simp only [Act.put, List.setIfInBounds_toArray, List.set_cons_zero, List.set_cons_succ]
    refine ⟨.pointer (some ⟨B, 1, none⟩), .inl ⟨by rfl, fun w' hw' => ?_⟩, ?_⟩
    · go_simp
    simp only [Act.put, List.setIfInBounds_toArray, List.set_cons_zero, List.set_cons_succ]
    refine ⟨.int .i64 (dp : Nat), .inl ⟨by rfl, fun w' hw' => ?_⟩, ?_⟩
    · have kk := rsg hw' 1 _ rfl
      go_simp
    simp only [Act.put, List.setIfInBounds_toArray, List.set_cons_zero, List.set_cons_succ]
    refine ⟨.string s2, .inl ⟨by rfl, fun w' hw' => ?_⟩, ?_⟩
    · go_simp
      exact H2.out w'
    simp only [Act.put, List.setIfInBounds_toArray, List.set_cons_zero, List.set_cons_succ]
    refine ⟨.string (s1 ++ s2), .inl ⟨by rfl, fun w' hw' => ?_⟩, ?_⟩
    · go_simp
    simp only [Act.put, List.setIfInBounds_toArray, List.set_cons_zero, List.set_cons_succ]
    refine ⟨.string (s1 ++ s2), .inl ⟨by rfl, fun w' hw' => ?_⟩, ?_⟩
    · go_simp
    simp only [Act.put, List.setIfInBounds_toArray, List.set_cons_zero, List.set_cons_succ]
    rfl
  intro w1 hc1 hr1
  have hbw1 : Below B w w1 := hb0.trans (((Below.refl _ _).drew.trans hr1).mono (by have := hb0.size; rw [hB] at this; simpa using this))
  have l6 := rsg hc1 6 _ rfl
  clear hr1 hb0 hc0
  go_wp2_with fail
  refine (H8.out _).mono ?_
  rintro e w2 ⟨rfl, hb2⟩
  have hc2 := (hb2.block B (lt_of_block hc1)).trans hc1
  have hbw2 : Below B w w2 := hbw1.trans (hb2.mono (by have := hbw1.size; rw [hB] at this; exact this))
  have l6 := rsg hc2 6 _ rfl
  clear hb2 hc1 hbw1

  have HP : Hid (∀ w, Calls Try.prog 23 #[.int .u32 src, .int .u32 dst, .int .i64 17, .int .i64 ((8 : Int) + (d.size : Int))] w fun e w' => e = .returned (.string (ba (pseudo src dst 17 ((8 : Int) + (d.size : Int))))) ∧ Below w.heap.size w w') := Lib.hid (fun w => refpseudo_any src dst 17 ((8 : Int) + (d.size : Int)) w hsrc hdst)
  rw [show ((8 + d.size : Nat) : Int) = ((8 : Int) + (d.size : Int)) from by omega] at HN HC
  have hPs : (ba (pseudo src dst 17 ((8 : Int) + (d.size : Int)))).size = 12 := rfl
  generalize ba (pseudo src dst 17 ((8 : Int) + (d.size : Int))) = Q at *
  have hof := refof_any (Q ++ (s1 ++ s2 ++ s8 ++ (⟨#[0, 0]⟩ : ByteArray) ++ d))
  rw [HN.out Q rfl] at hof
  have hN := Mofs_le [Q, ba (S.head17 sp dp d.size), d]
  generalize M.ofs [Q, ba (S.head17 sp dp d.size), d] = N at *
  clear HN
  go_wp2_with fail
  refine (HP.out _).mono ?_
  rintro e w4 ⟨rfl, hb4⟩
  have hbw4 : Below B w w4 := hbw2.trans (hb4.mono (by have := hbw2.size; rw [hB] at this; exact this))
  clear hb4 hbw2 hc2 l6
  go_wp2_with fail
  refine (hof _ (by rw [ByteArray.size_append, hPs, hxs]; omega)).mono ?_
  rintro e w5 ⟨rfl, rfl⟩
  clear hof HP hPs hxs
  by_cases hN0 : N = 0
  · subst hN0
    have H0 : Hid (∀ w, Calls Try.prog 20 #[.int .i64 65535] w fun e w' => e = .returned (.string (two 65535)) ∧ Below w.heap.size w w') := Lib.hid (fun w => short_any 65535 w (by omega))
    go_wp2_with fail
    have HE0 := Lib.hid (HE.out 65535)
    clear HE
    have zT : (two 65535).size = 2 := two_size _
    generalize two 65535 = T at *
    refine (H0.out _).mono ?_
    rintro e w6 ⟨rfl, hb6⟩
    clear H0
    have hbw6 : Below B w w6 := hbw4.trans (hb6.mono (by have := hbw4.size; rw [hB] at this; exact this))
    go_wp2
    go_ret
    refine ⟨?_, by rw [hB]; exact hbw6⟩
    show Ending.returned (.string (s1 ++ s2 ++ s8 ++ T ++ d)) = _
    rw [HE0.out]
    unfold S.enc17
    rw [← HC.out, told17]
  · have H0 := Lib.hid (fun w => short_any N w hN)
    have hN1 : ¬ (N : Int) = 0 := by omega
    go_wp2_with fail
    have HE0 := Lib.hid (HE.out N)
    clear HE
    have zT : (two N).size = 2 := two_size _
    generalize two N = T at *
    refine (H0.out _).mono ?_
    rintro e w6 ⟨rfl, hb6⟩
    clear H0
    have hbw6 : Below B w w6 := hbw4.trans (hb6.mono (by have := hbw4.size; rw [hB] at this; exact this))
    go_wp2
    go_ret
    refine ⟨?_, by rw [hB]; exact hbw6⟩
    show Ending.returned (.string (s1 ++ s2 ++ s8 ++ T ++ d)) = _
    rw [HE0.out]
    unfold S.enc17
    rw [← HC.out]
    unfold S.told
    rw [if_neg (fun h => hN0 h.2)]
end Go.Proofs.Ytohemlejceiojaa
