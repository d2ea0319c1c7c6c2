/- The walk of the document's own segment of bytes. -/
import Derived.Test.YtekgblidpbkccaaSgRefP
namespace Go.Proofs.Ytekgblidpbkccaa
open Go.RowKit
set_option linter.unusedVariables false
set_option maxRecDepth 100000

/-- The answer's block N as it was made, and a segment's block M. -/
structure RS (N M : Nat) (a b c d e f : Int) (g : ByteArray) (w W : World) : Prop where
  ans : W.heap[N]? = some (sgO 0 0 0 0 0 0 ⟨#[]⟩)
  seg : W.heap[M]? = some (sgO a b c d e f g)
  lt : N < M
  bel : Below N w W

theorem RS.draw {N M : Nat} {a b c d e f : Int} {g : ByteArray} {w W : World} (h : RS N M a b c d e f g w W) : RS N M a b c d e f g w W.drew := ⟨h.ans, h.seg, h.lt, h.bel.drew⟩
theorem RS.ac {N M : Nat} {a b c d e f : Int} {g : ByteArray} {w W : World} (h : RS N M a b c d e f g w W) (i : Nat) (v : Value) (hv : (#[.int .i64 0, .int .i64 0, .int .u32 0, .int .u32 0, .int .i64 0, .int .i64 0, .string ⟨#[]⟩] : Array Value)[i]? = some v) : W.cell? ⟨N, i, none⟩ = some v := by
  simp only [World.cell?, h.ans]; exact hv
theorem RS.af {N M : Nat} {a b c d e f : Int} {g : ByteArray} {w W : World} (h : RS N M a b c d e f g w W) (i : Nat) : W.frozen? ⟨N, i, none⟩ = false := by
  simp [World.frozen?, h.ans]
theorem RS.sc {N M : Nat} {a b c d e f : Int} {g : ByteArray} {w W : World} (h : RS N M a b c d e f g w W) (i : Nat) (v : Value) (hv : (#[.int .i64 a, .int .i64 b, .int .u32 c, .int .u32 d, .int .i64 e, .int .i64 f, .string g] : Array Value)[i]? = some v) : W.cell? ⟨M, i, none⟩ = some v := by
  simp only [World.cell?, h.seg]; exact hv
theorem RS.sf {N M : Nat} {a b c d e f : Int} {g : ByteArray} {w W : World} (h : RS N M a b c d e f g w W) (i : Nat) : W.frozen? ⟨M, i, none⟩ = false := by
  simp [World.frozen?, h.seg]
theorem RS.store {N M : Nat} {a b c d e f : Int} {g : ByteArray} {w W : World} (h : RS N M a b c d e f g w W) (i : Nat) (v : Value) {a' b' c' d' e' f' : Int} {g' : ByteArray}
    (he : (#[.int .i64 a, .int .i64 b, .int .u32 c, .int .u32 d, .int .i64 e, .int .i64 f, .string g] : Array Value).setIfInBounds i v = #[.int .i64 a', .int .i64 b', .int .u32 c', .int .u32 d', .int .i64 e', .int .i64 f', .string g']) : RS N M a' b' c' d' e' f' g' w (W.setCell ⟨M, i, none⟩ v) := by
  have hl := h.lt
  refine ⟨?_, ?_, h.lt, h.bel.setCell (Nat.le_of_lt hl) _⟩
  · rw [Below.heap_setCell _ _ _ _ (by show N ≠ M; omega)]; exact h.ans
  · have hlt := lt_of_block h.seg
    have h' : W.heap[M] = sgO a b c d e f g := by simpa [Array.getElem?_eq_getElem hlt] using h.seg
    show (W.heap.modify M _)[M]? = _
    rw [Array.getElem?_eq_getElem (by simpa using hlt), Array.getElem_modify_self, h']
    exact congrArg (fun x => some (Obj.cells x 24)) he

theorem RS.new {N : Nat} {w w3 : World} (h : w3.heap[N]? = some (sgO 0 0 0 0 0 0 ⟨#[]⟩)) (hb : Below N w w3) (a b c d e f : Int) (g : ByteArray) : RS N w3.heap.size a b c d e f g w (w3.alloc (sgO a b c d e f g)) :=
  ⟨(Below.heap_alloc w3 _ N (lt_of_block h)).trans h, heap_alloc_new w3 _, lt_of_block h, hb.alloc (Nat.le_of_lt (lt_of_block h)) _⟩
theorem RS.hc {N M : Nat} {a b c d e f : Int} {g : ByteArray} {w W : World} (h : RS N M a b c d e f g w W) (hN : N = w.heap.size) (i : Nat) : W.cell? ⟨N, i, none⟩ = (w.alloc (sgO 0 0 0 0 0 0 ⟨#[]⟩)).cell? ⟨N, i, none⟩ := by
  subst hN; exact World.cell?_of_block (h.ans.trans (heap_alloc_new w _).symm)
theorem RS.hf {N M : Nat} {a b c d e f : Int} {g : ByteArray} {w W : World} (h : RS N M a b c d e f g w W) (hN : N = w.heap.size) (i : Nat) : W.frozen? ⟨N, i, none⟩ = (w.alloc (sgO 0 0 0 0 0 0 ⟨#[]⟩)).frozen? ⟨N, i, none⟩ := by
  subst hN; exact World.frozen?_of_block (h.ans.trans (heap_alloc_new w _).symm)
theorem sets7 {N : Nat} {w W : World} (h : Below N w W) (v0 v1 v2 v3 v4 v5 v6 : Value) :
    Below N w (((((((W.setCell ⟨N, 0, none⟩ v0).setCell ⟨N, 1, none⟩ v1).setCell ⟨N, 2, none⟩ v2).setCell ⟨N, 3, none⟩ v3).setCell ⟨N, 4, none⟩ v4).setCell ⟨N, 5, none⟩ v5).setCell ⟨N, 6, none⟩ v6) :=
  ((((((h.setCell (Nat.le_refl _) _).setCell (Nat.le_refl _) _).setCell (Nat.le_refl _) _).setCell (Nat.le_refl _) _).setCell (Nat.le_refl _) _).setCell (Nat.le_refl _) _).setCell (Nat.le_refl _) _

theorem ofs_join (x s : List UInt8) : M.ofs [ba x ++ ba s] = M.ofs [ba x, ba s] := by
  rw [ba_append]; simp [M.ofs, M.tot, ba_list]

theorem rparse_no (p : Int) (src dst : Nat) (s : List UInt8) (w : World) (h6 : p ≠ 6) (h17 : p ≠ 17) :
    Calls Try.prog 13 #[.int .i64 p, .int .u32 src, .int .u32 dst, .string (ba s)] w fun e w' => e = .returned (S.parsed p src dst s) ∧ Below w.heap.size w w' := by
  have He : Hid (S.parsed p src dst s = .tuple #[sg 0 0 0 0 0 0 ⟨#[]⟩, .int .i64 1]) := Lib.hid (by
    have e : S.perr p src dst s = 1 := by unfold S.perr S.err; rw [if_neg h6, if_neg h17]
    unfold S.parsed; rw [e, if_neg (by decide)]; rfl)
  have e1 : (p != 6) = true := by simpa using h6
  have e2 : (p != 17) = true := by simpa using h17
  go_enter Try.func13, Try.ntmps13
  go_wp2
  exact bodyPost_ret (v := .tuple #[sg 0 0 0 0 0 0 ⟨#[]⟩, .int .i64 1]) (by simp [results, Try.results13, go_sem]) rfl ⟨by rw [He.out], (Below.refl _ w).alloc (Nat.le_refl _) _⟩

set_option maxHeartbeats 8000000 in
theorem rparse17 (src dst : Nat) (s : List UInt8) (w : World) (hs : s.length ≤ 90000) (hsrc : src < 4294967296) (hdst : dst < 4294967296) :
    Calls Try.prog 13 #[.int .i64 17, .int .u32 src, .int .u32 dst, .string (ba s)] w fun e w' => e = .returned (S.parsed 17 src dst s) ∧ Below w.heap.size w w' := by
  have hz := ba_size s
  obtain ⟨P, hP⟩ : ∃ P, P = ba (pseudo src dst 17 (s.length : Int)) := ⟨_, rfl⟩
  have hPs : P.size = 12 := by rw [hP]; rfl
  have Hps : Hid (∀ w, Calls Try.prog 28 #[.int .u32 src, .int .u32 dst, .int .i64 17, .int .i64 (s.length : Int)] w fun e w' => e = .returned (.string P) ∧ Below w.heap.size w w') := Lib.hid fun w => by rw [hP]; exact refpseudo_any src dst 17 _ w hsrc hdst
  obtain ⟨n, hn⟩ : ∃ n, M.ofs [P ++ ba s] = n := ⟨_, rfl⟩
  have hgood : (n = 0) = S.good P s := by rw [← hn, hP, ofs_join]; rfl
  have Hof : Hid (∀ w, Calls Try.prog 27 #[.string (P ++ ba s)] w fun e w' => e = .returned (.int .i64 (n : Int)) ∧ w = w') := Lib.hid fun w => by rw [← hn]; exact refof_any _ w (by rw [ByteArray.size_append]; omega)
  obtain ⟨q, hq⟩ : ∃ q : Bool, ((n : Int) == 0) = q := ⟨_, rfl⟩
  have hqg : q = decide (S.good P s) := by
    rw [← hq]
    by_cases h : n = 0
    · subst h; have : S.good P s := by rw [← hgood]
      rw [decide_eq_true this]; rfl
    · have h2 : ¬ S.good P s := by rw [← hgood]; exact h
      rw [decide_eq_false h2]; simpa using h
  have hb1 : (9223372036854775807 < 12 + s.length) = False := by simp; omega
  have He : Hid (S.parsed 17 src dst s = .tuple #[if S.err17 P s = 0 then sg (H.sh s 0) (H.sh s 2) 0 0 0 0 (ba (s.drop 8)) else sg 0 0 0 0 0 0 ⟨#[]⟩, .int .i64 (S.err17 P s : Nat)]) := Lib.hid (by rw [hP]; rfl)
  have HE : Hid (S.err17 P s = if s.length < 8 then 2 else if H.sh s 4 < 8 then 3 else if s.length < H.sh s 4 then 2 else if H.sh s 4 < s.length then 5 else if H.sh s 6 ≠ 0 ∧ ¬ S.good P s then 4 else 0) := Lib.hid rfl
  have Hqg := Lib.hid hqg
  clear hP hn hgood hqg
  have hb0 : Below w.heap.size w (w.alloc (sgO 0 0 0 0 0 0 ⟨#[]⟩)) := (Below.refl _ w).alloc (Nat.le_refl _) _
  go_enter Try.func13, Try.ntmps13
  go_wp2_with fail
  refine (Hps.out _).mono ?_
  rintro e w1 ⟨rfl, hb1w⟩
  have ha1 : w1.heap[w.heap.size]? = some (sgO 0 0 0 0 0 0 ⟨#[]⟩) := (hb1w.block _ (by simp)).trans (heap_alloc_new w _)
  have hbel1 := hb0.trans (hb1w.mono (by simp))
  clear hb0 hb1w Hps
  go_wp2_with fail
  refine (Hof.out _).mono ?_
  rintro e w2 ⟨rfl, rfl⟩
  clear Hof
  by_cases h8 : s.length < 8
  · have hcell : ∀ i : Nat, w1.cell? ⟨w.heap.size, i, none⟩ = (w.alloc (sgO 0 0 0 0 0 0 ⟨#[]⟩)).cell? ⟨w.heap.size, i, none⟩ := fun i => World.cell?_of_block (ha1.trans (heap_alloc_new w _).symm)
    have hfz : ∀ i : Nat, w1.frozen? ⟨w.heap.size, i, none⟩ = (w.alloc (sgO 0 0 0 0 0 0 ⟨#[]⟩)).frozen? ⟨w.heap.size, i, none⟩ := fun i => World.frozen?_of_block (ha1.trans (heap_alloc_new w _).symm)
    go_wp2_with fail
    exact bodyPost_ret (v := .tuple #[sg 0 0 0 0 0 0 ⟨#[]⟩, .int .i64 2]) (by simp [results, Try.results13, go_sem, hcell]) rfl ⟨by rw [He.out, show S.err17 P s = 2 from by rw [HE.out, if_pos h8]]; rfl, sets7 hbel1 _ _ _ _ _ _ _⟩
  have R0 := Lib.hid (fun w => rs_at s 0 0 rfl w (by omega) hs)
  have R2 := Lib.hid (fun w => rs_at s 2 2 rfl w (by omega) hs)
  have R4 := Lib.hid (fun w => rs_at s 4 4 rfl w (by omega) hs)
  have R6 := Lib.hid (fun w => rs_at s 6 6 rfl w (by omega) hs)
  have HE2 : Hid (S.err17 P s = if H.sh s 4 < 8 then 3 else if s.length < H.sh s 4 then 2 else if H.sh s 4 < s.length then 5 else if H.sh s 6 ≠ 0 ∧ ¬ S.good P s then 4 else 0) := Lib.hid (by rw [HE.out, if_neg h8])
  have l4 := H.sh_lt s 4
  have l6 := H.sh_lt s 6
  have hx : (ba s).extract 8 s.length = ba (s.drop 8) := by rw [← ba_drop, ba_size]
  clear HE
  generalize H.sh s 0 = x0 at *
  generalize H.sh s 2 = x2 at *
  generalize H.sh s 4 = z at *
  generalize H.sh s 6 = c at *
  generalize ba (s.drop 8) = D at *
  go_wp2_with fail
  refine (R0.out _).mono ?_
  rintro e w2 ⟨rfl, hw2⟩
  go_wp2_with fail
  refine (R2.out _).mono ?_
  rintro e w3 ⟨rfl, hw3⟩
  have ha3 : w3.heap[w.heap.size]? = some (sgO 0 0 0 0 0 0 ⟨#[]⟩) := by first | (rw [hw3, hw2]; exact ha1) | (rw [hw3]; exact ha1)
  have hbel3 : Below w.heap.size w w3 := by first | (rw [hw3, hw2]; exact hbel1.drew.drew) | (rw [hw3]; exact hbel1.drew.drew)
  clear hw2 hw3 ha1 hbel1 R0 R2
  have HN := Lib.hid (RS.new ha3 hbel3 x0 x2 0 0 0 0 ⟨#[]⟩)
  clear ha3 hbel3
  go_wp2_with fail
  refine (R4.out _).mono ?_
  rintro e w4 ⟨rfl, hw4⟩
  have H4 : Hid (RS w.heap.size w3.heap.size x0 x2 0 0 0 0 ⟨#[]⟩ w w4) := Lib.hid (by rw [hw4]; exact HN.out.draw)
  clear hw4 HN R4
  generalize w3.heap.size = M at *
  by_cases hn1 : z < 8
  · have hcell := fun i => H4.out.hc rfl i
    have hfz := fun i => H4.out.hf rfl i
    go_wp2_with fail
    exact bodyPost_ret (v := .tuple #[sg 0 0 0 0 0 0 ⟨#[]⟩, .int .i64 3]) (by simp [results, Try.results13, go_sem, hcell]) rfl ⟨by rw [He.out, show S.err17 P s = 3 from by rw [HE2.out, if_pos hn1]]; rfl, sets7 H4.out.bel _ _ _ _ _ _ _⟩
  by_cases hn2 : s.length < z
  · have hcell := fun i => H4.out.hc rfl i
    have hfz := fun i => H4.out.hf rfl i
    go_wp2_with fail
    exact bodyPost_ret (v := .tuple #[sg 0 0 0 0 0 0 ⟨#[]⟩, .int .i64 2]) (by simp [results, Try.results13, go_sem, hcell]) rfl ⟨by rw [He.out, show S.err17 P s = 2 from by rw [HE2.out, if_neg hn1, if_pos hn2]]; rfl, sets7 H4.out.bel _ _ _ _ _ _ _⟩
  by_cases hn3 : z < s.length
  · have hcell := fun i => H4.out.hc rfl i
    have hfz := fun i => H4.out.hf rfl i
    go_wp2_with fail
    exact bodyPost_ret (v := .tuple #[sg 0 0 0 0 0 0 ⟨#[]⟩, .int .i64 5]) (by simp [results, Try.results13, go_sem, hcell]) rfl ⟨by rw [He.out, show S.err17 P s = 5 from by rw [HE2.out, if_neg hn1, if_neg hn2, if_pos hn3]]; rfl, sets7 H4.out.bel _ _ _ _ _ _ _⟩
  go_wp2_with fail
  refine (R6.out _).mono ?_
  rintro e w5 ⟨rfl, hw5⟩
  have H5 : Hid (RS w.heap.size M x0 x2 0 0 0 0 ⟨#[]⟩ w w5) := Lib.hid (by rw [hw5]; exact H4.out.draw)
  clear hw5 H4 R6
  by_cases hc4 : c ≠ 0 ∧ ¬ S.good P s
  · have hq0 : q = false := by rw [Hqg.out]; exact decide_eq_false hc4.2
    subst hq0
    have hc0 : ((c : Int) != 0) = true := by have := hc4.1; simp; omega
    have hcell := fun i => H5.out.hc rfl i
    have hfz := fun i => H5.out.hf rfl i
    go_wp2_with fail
    exact bodyPost_ret (v := .tuple #[sg 0 0 0 0 0 0 ⟨#[]⟩, .int .i64 4]) (by simp [results, Try.results13, go_sem, hcell]) rfl ⟨by rw [He.out, show S.err17 P s = 4 from by rw [HE2.out, if_neg hn1, if_neg hn2, if_neg hn3, if_pos hc4]]; rfl, sets7 H5.out.bel _ _ _ _ _ _ _⟩
  · by_cases hc : c = 0
    · subst hc
      have hcell := fun i => H5.out.hc rfl i
      have hfz := fun i => H5.out.hf rfl i
      have hlt := H5.out.lt
      have hne : (w.heap.size = M) = False := by simp; omega
      have hne2 : (M = w.heap.size) = False := by simp; omega
      have m0 := H5.out.sc 0 _ rfl
      have m1 := H5.out.sc 1 _ rfl
      have m2 := H5.out.sc 2 _ rfl
      have m3 := H5.out.sc 3 _ rfl
      have m4 := H5.out.sc 4 _ rfl
      have m5 := H5.out.sc 5 _ rfl
      have m6 := H5.out.sc 6 _ rfl
      have f6 := H5.out.sf 6
      have hl8 : 8 ≤ s.length := by omega
      go_wp2_with fail
      exact bodyPost_ret (v := .tuple #[sg x0 x2 0 0 0 0 D, .int .i64 0]) (by simp [results, Try.results13, go_sem, hcell]) rfl ⟨by rw [He.out, show S.err17 P s = 0 from by rw [HE2.out, if_neg hn1, if_neg hn2, if_neg hn3, if_neg hc4]]; rfl, sets7 (H5.out.bel.setCell (Nat.le_of_lt hlt) _) _ _ _ _ _ _ _⟩
    · have hq1 : q = true := by
        rw [Hqg.out]; refine decide_eq_true ?_
        by_cases hg : S.good P s
        · exact hg
        · exact absurd ⟨hc, hg⟩ hc4
      subst hq1
      have hc0 : ((c : Int) != 0) = true := by simp; omega
      have hcell := fun i => H5.out.hc rfl i
      have hfz := fun i => H5.out.hf rfl i
      have hlt := H5.out.lt
      have hne : (w.heap.size = M) = False := by simp; omega
      have hne2 : (M = w.heap.size) = False := by simp; omega
      have m0 := H5.out.sc 0 _ rfl
      have m1 := H5.out.sc 1 _ rfl
      have m2 := H5.out.sc 2 _ rfl
      have m3 := H5.out.sc 3 _ rfl
      have m4 := H5.out.sc 4 _ rfl
      have m5 := H5.out.sc 5 _ rfl
      have m6 := H5.out.sc 6 _ rfl
      have f6 := H5.out.sf 6
      have hl8 : 8 ≤ s.length := by omega
      go_wp2_with fail
      exact bodyPost_ret (v := .tuple #[sg x0 x2 0 0 0 0 D, .int .i64 0]) (by simp [results, Try.results13, go_sem, hcell]) rfl ⟨by rw [He.out, show S.err17 P s = 0 from by rw [HE2.out, if_neg hn1, if_neg hn2, if_neg hn3, if_neg hc4]]; rfl, sets7 (H5.out.bel.setCell (Nat.le_of_lt hlt) _) _ _ _ _ _ _ _⟩

set_option maxHeartbeats 8000000 in
theorem rparse6 (src dst : Nat) (s : List UInt8) (w : World) (hs : s.length ≤ 90000) (hsrc : src < 4294967296) (hdst : dst < 4294967296) :
    Calls Try.prog 13 #[.int .i64 6, .int .u32 src, .int .u32 dst, .string (ba s)] w fun e w' => e = .returned (S.parsed 6 src dst s) ∧ Below w.heap.size w w' := by
  have hz := ba_size s
  obtain ⟨P, hP⟩ : ∃ P, P = ba (pseudo src dst 6 (s.length : Int)) := ⟨_, rfl⟩
  have hPs : P.size = 12 := by rw [hP]; rfl
  have Hps : Hid (∀ w, Calls Try.prog 28 #[.int .u32 src, .int .u32 dst, .int .i64 6, .int .i64 (s.length : Int)] w fun e w' => e = .returned (.string P) ∧ Below w.heap.size w w') := Lib.hid fun w => by rw [hP]; exact refpseudo_any src dst 6 _ w hsrc hdst
  obtain ⟨n, hn⟩ : ∃ n, M.ofs [P ++ ba s] = n := ⟨_, rfl⟩
  have hgood : (n = 0) = S.good P s := by rw [← hn, hP, ofs_join]; rfl
  have Hof : Hid (∀ w, Calls Try.prog 27 #[.string (P ++ ba s)] w fun e w' => e = .returned (.int .i64 (n : Int)) ∧ w = w') := Lib.hid fun w => by rw [← hn]; exact refof_any _ w (by rw [ByteArray.size_append]; omega)
  obtain ⟨q, hq⟩ : ∃ q : Bool, ((n : Int) == 0) = q := ⟨_, rfl⟩
  have hqg : q = decide (S.good P s) := by
    rw [← hq]
    by_cases h : n = 0
    · subst h; have : S.good P s := by rw [← hgood]
      rw [decide_eq_true this]; rfl
    · have h2 : ¬ S.good P s := by rw [← hgood]; exact h
      rw [decide_eq_false h2]; simpa using h
  have hb1 : (9223372036854775807 < 12 + s.length) = False := by simp; omega
  have He : Hid (S.parsed 6 src dst s = .tuple #[if S.err6 P s = 0 then sg (H.sh s 0) (H.sh s 2) (H.wd s 4) (H.wd s 8) ((H.g s 13 % 64 : Nat) : Int) (H.sh s 14) (ba (s.drop (H.g s 12 / 16 * 4))) else sg 0 0 0 0 0 0 ⟨#[]⟩, .int .i64 (S.err6 P s : Nat)]) := Lib.hid (by rw [hP]; rfl)
  have HE : Hid (S.err6 P s = if s.length < 20 then 2 else if H.g s 12 / 16 * 4 < 20 then 3 else if s.length < H.g s 12 / 16 * 4 then 2 else if ¬ S.good P s then 4 else 0) := Lib.hid rfl
  have Hqg := Lib.hid hqg
  clear hP hn hgood hqg
  have hb0 : Below w.heap.size w (w.alloc (sgO 0 0 0 0 0 0 ⟨#[]⟩)) := (Below.refl _ w).alloc (Nat.le_refl _) _
  go_enter Try.func13, Try.ntmps13
  go_wp2_with fail
  refine (Hps.out _).mono ?_
  rintro e w1 ⟨rfl, hb1w⟩
  have ha1 : w1.heap[w.heap.size]? = some (sgO 0 0 0 0 0 0 ⟨#[]⟩) := (hb1w.block _ (by simp)).trans (heap_alloc_new w _)
  have hbel1 := hb0.trans (hb1w.mono (by simp))
  clear hb0 hb1w Hps
  go_wp2_with fail
  refine (Hof.out _).mono ?_
  rintro e w2 ⟨rfl, rfl⟩
  clear Hof
  by_cases h8 : s.length < 8
  · have hcell : ∀ i : Nat, w1.cell? ⟨w.heap.size, i, none⟩ = (w.alloc (sgO 0 0 0 0 0 0 ⟨#[]⟩)).cell? ⟨w.heap.size, i, none⟩ := fun i => World.cell?_of_block (ha1.trans (heap_alloc_new w _).symm)
    have hfz : ∀ i : Nat, w1.frozen? ⟨w.heap.size, i, none⟩ = (w.alloc (sgO 0 0 0 0 0 0 ⟨#[]⟩)).frozen? ⟨w.heap.size, i, none⟩ := fun i => World.frozen?_of_block (ha1.trans (heap_alloc_new w _).symm)
    go_wp2_with fail
    exact bodyPost_ret (v := .tuple #[sg 0 0 0 0 0 0 ⟨#[]⟩, .int .i64 2]) (by simp [results, Try.results13, go_sem, hcell]) rfl ⟨by rw [He.out, show S.err6 P s = 2 from by rw [HE.out, if_pos (by omega)]]; rfl, sets7 hbel1 _ _ _ _ _ _ _⟩
  by_cases h20 : s.length < 20
  · have hcell : ∀ i : Nat, w1.cell? ⟨w.heap.size, i, none⟩ = (w.alloc (sgO 0 0 0 0 0 0 ⟨#[]⟩)).cell? ⟨w.heap.size, i, none⟩ := fun i => World.cell?_of_block (ha1.trans (heap_alloc_new w _).symm)
    have hfz : ∀ i : Nat, w1.frozen? ⟨w.heap.size, i, none⟩ = (w.alloc (sgO 0 0 0 0 0 0 ⟨#[]⟩)).frozen? ⟨w.heap.size, i, none⟩ := fun i => World.frozen?_of_block (ha1.trans (heap_alloc_new w _).symm)
    go_wp2_with fail
    exact bodyPost_ret (v := .tuple #[sg 0 0 0 0 0 0 ⟨#[]⟩, .int .i64 2]) (by simp [results, Try.results13, go_sem, hcell]) rfl ⟨by rw [He.out, show S.err6 P s = 2 from by rw [HE.out, if_pos h20]]; rfl, sets7 hbel1 _ _ _ _ _ _ _⟩
  have R0 := Lib.hid (fun w => rs_at s 0 0 rfl w (by omega) hs)
  have l0 := H.sh_lt s 0
  have R2 := Lib.hid (fun w => rs_at s 2 2 rfl w (by omega) hs)
  have l2 := H.sh_lt s 2
  have R4 := Lib.hid (fun w => rs_at s 4 4 rfl w (by omega) hs)
  have l4 := H.sh_lt s 4
  have R6 := Lib.hid (fun w => rs_at s 6 6 rfl w (by omega) hs)
  have l6 := H.sh_lt s 6
  have R8 := Lib.hid (fun w => rs_at s 8 8 rfl w (by omega) hs)
  have l8 := H.sh_lt s 8
  have R10 := Lib.hid (fun w => rs_at s 10 10 rfl w (by omega) hs)
  have l10 := H.sh_lt s 10
  have R14 := Lib.hid (fun w => rs_at s 14 14 rfl w (by omega) hs)
  have l14 := H.sh_lt s 14
  have HE2 : Hid (S.err6 P s = if H.g s 12 / 16 * 4 < 20 then 3 else if s.length < H.g s 12 / 16 * 4 then 2 else if ¬ S.good P s then 4 else 0) := Lib.hid (by rw [HE.out, if_neg h20])
  have Hw4 : Hid (H.wd s 4 = H.sh s 4 * 65536 + H.sh s 6) := Lib.hid rfl
  have Hw8 : Hid (H.wd s 8 = H.sh s 8 * 65536 + H.sh s 10) := Lib.hid rfl
  have y12 : 12 < (ba s).size := by omega
  have y13 : 13 < (ba s).size := by omega
  have x12 : (((ba s)[12]'y12).toNat : Int) = (H.g s 12 : Int) := by rw [sba_get]
  have x13 : (((ba s)[13]'y13).toNat : Int) = (H.g s 13 : Int) := by rw [sba_get]
  have g12 := H.g_lt s 12
  have g13 := H.g_lt s 13
  obtain ⟨m, hm⟩ : ∃ m, H.g s 12 / 16 * 4 = m := ⟨_, rfl⟩
  have hx : (ba s).extract m s.length = ba (s.drop m) := by rw [← ba_drop, ba_size]
  obtain ⟨f4, hf4⟩ : ∃ f4, H.g s 12 / 16 = f4 := ⟨_, rfl⟩
  have v0 : (H.g s 12 : Int) / 16 = (f4 : Int) := by omega
  have hf16 : f4 < 16 := by omega
  rw [hm] at HE2 He
  rw [hf4] at hm
  rw [Hw4.out, Hw8.out] at He
  have v13 : (H.g s 13 : Int) % 64 = ((H.g s 13 % 64 : Nat) : Int) := by omega
  have v14 : (H.g s 13 : Int).tmod 64 = ((H.g s 13 % 64 : Nat) : Int) := by rw [Int.tmod_eq_emod_of_nonneg (by omega)]; omega
  have vm : (f4 : Int) * 4 = (m : Int) := by omega
  clear HE hf4 Hw4 Hw8
  generalize H.g s 12 = g at *
  generalize H.g s 13 % 64 = fl at *
  generalize H.g s 13 = gg at *
  generalize H.sh s 0 = x0 at *
  generalize H.sh s 2 = x2 at *
  generalize H.sh s 4 = x4 at *
  generalize H.sh s 6 = x6 at *
  generalize H.sh s 8 = x8 at *
  generalize H.sh s 10 = x10 at *
  generalize H.sh s 14 = x14 at *
  generalize ba (s.drop m) = D at *
  go_wp2_with fail
  refine (R0.out _).mono ?_
  rintro e w2 ⟨rfl, hw2⟩
  go_wp2_with fail
  refine (R2.out _).mono ?_
  rintro e w3 ⟨rfl, hw3⟩
  have ha3 : w3.heap[w.heap.size]? = some (sgO 0 0 0 0 0 0 ⟨#[]⟩) := by first | (rw [hw3, hw2]; exact ha1) | (rw [hw3]; exact ha1)
  have hbel3 : Below w.heap.size w w3 := by first | (rw [hw3, hw2]; exact hbel1.drew.drew) | (rw [hw3]; exact hbel1.drew.drew)
  clear hw2 hw3 ha1 hbel1 R0 R2
  have H4 := Lib.hid (RS.new ha3 hbel3 x0 x2 0 0 0 0 ⟨#[]⟩)
  clear ha3 hbel3
  go_upto_region 19 with fail
  generalize w3.alloc (sgO x0 x2 0 0 0 0 ⟨#[]⟩) = w4 at *
  generalize w3.heap.size = M at *
  by_cases hn1 : m < 20
  · have hcell := fun i => H4.out.hc rfl i
    have hfz := fun i => H4.out.hf rfl i
    go_wp2_with fail
    exact bodyPost_ret (v := .tuple #[sg 0 0 0 0 0 0 ⟨#[]⟩, .int .i64 3]) (by simp [results, Try.results13, go_sem, hcell]) rfl ⟨by rw [He.out, show S.err6 P s = 3 from by rw [HE2.out, if_pos hn1]]; rfl, sets7 H4.out.bel _ _ _ _ _ _ _⟩
  by_cases hn2 : s.length < m
  · have hcell := fun i => H4.out.hc rfl i
    have hfz := fun i => H4.out.hf rfl i
    go_wp2_with fail
    exact bodyPost_ret (v := .tuple #[sg 0 0 0 0 0 0 ⟨#[]⟩, .int .i64 2]) (by simp [results, Try.results13, go_sem, hcell]) rfl ⟨by rw [He.out, show S.err6 P s = 2 from by rw [HE2.out, if_neg hn1, if_pos hn2]]; rfl, sets7 H4.out.bel _ _ _ _ _ _ _⟩
  by_cases hg : S.good P s
  case neg =>
    have hq0 : q = false := by rw [Hqg.out]; exact decide_eq_false hg
    subst hq0
    have hcell := fun i => H4.out.hc rfl i
    have hfz := fun i => H4.out.hf rfl i
    go_wp2_with fail
    exact bodyPost_ret (v := .tuple #[sg 0 0 0 0 0 0 ⟨#[]⟩, .int .i64 4]) (by simp [results, Try.results13, go_sem, hcell]) rfl ⟨by rw [He.out, show S.err6 P s = 4 from by rw [HE2.out, if_neg hn1, if_neg hn2, if_pos hg]]; rfl, sets7 H4.out.bel _ _ _ _ _ _ _⟩
  have hq1 : q = true := by rw [Hqg.out]; exact decide_eq_true hg
  subst hq1
  have Hg := Lib.hid hg
  clear hg
  have hlt := H4.out.lt
  have hne : (w.heap.size = M) = False := by simp; omega
  have hne2 : (M = w.heap.size) = False := by simp; omega
  have hl12 : 12 < s.length := by omega
  have hl13 : 13 < s.length := by omega
  go_wp2_with fail
  refine (R4.out _).mono ?_
  rintro e w5 ⟨rfl, hw5⟩
  go_wp2_with fail
  refine (R6.out _).mono ?_
  rintro e w6 ⟨rfl, hw6⟩
  have H6 : Hid (RS w.heap.size M x0 x2 0 0 0 0 ⟨#[]⟩ w w6) := Lib.hid (by first | (rw [hw6, hw5]; exact H4.out.draw.draw) | (rw [hw6]; exact H4.out.draw.draw))
  clear hw5 hw6 H4 R4 R6
  have k2 := H6.out.sc 2 _ rfl
  have z2 := H6.out.sf 2
  go_wp2_with fail
  refine (R8.out _).mono ?_
  rintro e w7 ⟨rfl, hw7⟩
  have H7 : Hid (RS w.heap.size M x0 x2 ((x4 : Int) * 65536 + x6) 0 0 0 ⟨#[]⟩ w w7) := Lib.hid (by rw [hw7]; exact (H6.out.store 2 _ rfl).draw)
  clear hw7 H6 R8 k2 z2
  go_wp2_with fail
  refine (R10.out _).mono ?_
  rintro e w8 ⟨rfl, hw8⟩
  have H8 : Hid (RS w.heap.size M x0 x2 ((x4 : Int) * 65536 + x6) 0 0 0 ⟨#[]⟩ w w8) := Lib.hid (by first | (rw [hw8]; exact H7.out.draw) | (subst hw8; exact H7.out.draw))
  clear hw8 H7 R10
  have k3 := H8.out.sc 3 _ rfl
  have z3 := H8.out.sf 3
  have k4 := H8.out.sc 4 _ rfl
  have z4 := H8.out.sf 4
  go_wp2_with fail
  refine (R14.out _).mono ?_
  rintro e w9 ⟨rfl, hw9⟩
  have H9 : Hid (RS w.heap.size M x0 x2 ((x4 : Int) * 65536 + x6) ((x8 : Int) * 65536 + x10) (fl : Int) 0 ⟨#[]⟩ w w9) := Lib.hid (by rw [hw9]; exact ((H8.out.store 3 _ rfl).store 4 _ rfl).draw)
  clear hw9 H8 R14 k3 z3 k4 z4
  have hcell := fun i => H9.out.hc rfl i
  have hfz := fun i => H9.out.hf rfl i
  have m0 := H9.out.sc 0 _ rfl
  have m1 := H9.out.sc 1 _ rfl
  have m2 := H9.out.sc 2 _ rfl
  have m3 := H9.out.sc 3 _ rfl
  have m4 := H9.out.sc 4 _ rfl
  have m5 := H9.out.sc 5 _ rfl
  have m6 := H9.out.sc 6 _ rfl
  have f5 := H9.out.sf 5
  have f6 := H9.out.sf 6
  have hml : m ≤ s.length := by omega
  go_wp2_with fail
  exact bodyPost_ret (v := .tuple #[sg x0 x2 ((x4 : Int) * 65536 + x6) ((x8 : Int) * 65536 + x10) fl x14 D, .int .i64 0]) (by simp [results, Try.results13, go_sem, hcell]) rfl ⟨by rw [He.out, show S.err6 P s = 0 from by rw [HE2.out, if_neg hn1, if_neg hn2, if_neg (not_not_intro Hg.out)]]; rfl, sets7 ((H9.out.bel.setCell (Nat.le_of_lt hlt) _).setCell (Nat.le_of_lt hlt) _) _ _ _ _ _ _ _⟩

theorem rparse_any (p : Int) (src dst : Nat) (s : List UInt8) (w : World) (hs : s.length ≤ 90000) (hsrc : src < 4294967296) (hdst : dst < 4294967296) :
    Calls Try.prog 13 #[.int .i64 p, .int .u32 src, .int .u32 dst, .string (ba s)] w fun e w' => e = .returned (S.parsed p src dst s) ∧ Below w.heap.size w w' := by
  by_cases h6 : p = 6
  · subst h6; exact rparse6 src dst s w hs hsrc hdst
  · by_cases h17 : p = 17
    · subst h17; exact rparse17 src dst s w hs hsrc hdst
    · exact rparse_no p src dst s w h6 h17
#print axioms rparse_any
end Go.Proofs.Ytekgblidpbkccaa
