/- The walks of bytes' segment, and of their ports. -/
import Derived.Test.YtohemlejceiojaaSgPar
import Derived.Deep.QuietTactic
import Derived.BigQuiet
namespace Go.Proofs.Ytohemlejceiojaa
open Go.RowKit
set_option linter.unusedVariables false
set_option maxRecDepth 100000

theorem sbelowN {base : Nat} {w w' : World} (h : Below base w w') (n : Nat) : Below base w (w'.drewN n) := by
  induction n with
  | zero => exact h
  | succ k ih => exact ih.drew

/-- No segment. -/
abbrev zeroS : Value := sg 0 0 0 0 0 0 nobytes
namespace S
/-- The segment that right bytes are. -/
def seg (p : Int) (s : List UInt8) : Value :=
  if p = 6 then sg (H.sh s 0) (H.sh s 2) (H.wd s 4) (H.wd s 8) ((H.g s 13 % 64 : Nat) : Int) (H.sh s 14) (ba (s.drop (H.g s 12 / 16 * 4))) else sg (H.sh s 0) (H.sh s 2) 0 0 0 0 (ba (s.drop 8))
/-- What stands ahead of bytes. -/
def ahead (p : Int) (src dst : Nat) (s : List UInt8) : ByteArray := ba (pseudo src dst p (s.length : Int))
/-- What is wrong with bytes. -/
def perr (p : Int) (src dst : Nat) (s : List UInt8) : Nat := err p (ahead p src dst s) s
/-- What a Parse answers. -/
def parsed (p : Int) (src dst : Nat) (s : List UInt8) : Value := .tuple #[if perr p src dst s = 0 then seg p s else zeroS, .int .i64 (perr p src dst s : Nat)]
end S

theorem ahead_size (p : Int) (src dst : Nat) (s : List UInt8) : (S.ahead p src dst s).size = 12 := rfl

theorem cs_pc (p : Int) (s : List UInt8) : ∃ (a b c d e f : Nat) (g : ByteArray), (∀ r P, S.cs p r P s = pc r P s a b c d e f g) ∧ S.seg p s = sg a b c d e f g := by
  by_cases h : p = 6
  · subst h; exact ⟨_, _, _, _, _, _, _, fun _ _ => rfl, rfl⟩
  · refine ⟨H.sh s 0, H.sh s 2, 0, 0, 0, 0, ba (s.drop 8), fun r P => ?_, ?_⟩
    · unfold S.cs; rw [if_neg h]; rfl
    · unfold S.seg; rw [if_neg h]; rfl

theorem parse6 (base b r : Nat) (P : ByteArray) (s : List UInt8) (w : World) (h : Pz PT base b r s 0 (pc r P s 0 0 0 0 0 0 nobytes) w) (hs : s.length ≤ 90000) (hP : P.size ≤ 100) :
    Calls Try.prog 19 #[.pointer (some ⟨b, 0, none⟩), .int .i64 6] w (Parsed base b r (S.err6 P s) s (S.cs6 r P s) w) := by
  have H0 := Lib.hid (tcp_any base b r P s w h hs hP)
  clear h
  generalize hG : Parsed base b r (S.err6 P s) s (S.cs6 r P s) w = G at *
  have HE : Hid (∀ e w', G e w' → ∃ n : Int, e = .returned (.int .i64 n)) := Lib.hid fun e w' h => by rw [← hG] at h; exact ⟨_, h.1⟩
  clear hG
  go_enter Try.func19, Try.ntmps19
  go_wp2_with fail
  refine H0.out.mono ?_
  intro e w1 h1
  obtain ⟨n, rfl⟩ := HE.out _ _ h1
  have H1 := Lib.hid h1
  clear h1 H0 HE
  go_wp2
  exact H1.out

theorem parse17 (base b r : Nat) (P : ByteArray) (s : List UInt8) (w : World) (h : Pz PT base b r s 0 (pc r P s 0 0 0 0 0 0 nobytes) w) (hs : s.length ≤ 90000) (hP : P.size ≤ 100) :
    Calls Try.prog 19 #[.pointer (some ⟨b, 0, none⟩), .int .i64 17] w (Parsed base b r (S.err17 P s) s (S.cs17 r P s) w) := by
  have H0 := Lib.hid (udp_any base b r P s w h hs hP)
  clear h
  generalize hG : Parsed base b r (S.err17 P s) s (S.cs17 r P s) w = G at *
  have HE : Hid (∀ e w', G e w' → ∃ n : Int, e = .returned (.int .i64 n)) := Lib.hid fun e w' h => by rw [← hG] at h; exact ⟨_, h.1⟩
  clear hG
  go_enter Try.func19, Try.ntmps19
  go_wp2_with fail
  refine H0.out.mono ?_
  intro e w1 h1
  obtain ⟨n, rfl⟩ := HE.out _ _ h1
  have H1 := Lib.hid h1
  clear h1 H0 HE
  go_wp2
  exact H1.out

theorem parse_no (base b r : Nat) (p : Int) (P : ByteArray) (s : List UInt8) (cs : Array Value) (w : World) (h6 : p ≠ 6) (h17 : p ≠ 17) :
    Calls Try.prog 19 #[.pointer (some ⟨b, 0, none⟩), .int .i64 p] w (Parsed base b r 1 s cs w) := by
  have GG : Hid (Parsed base b r 1 s cs w (.returned (.int .i64 1)) w) := Lib.hid ⟨rfl, Below.refl _ _, fun h => by cases h⟩
  generalize hG : Parsed base b r 1 s cs w = G at *
  clear hG
  have e1 : (p == 6) = false := by simpa using h6
  have e2 : (p == 17) = false := by simpa using h17
  go_enter Try.func19, Try.ntmps19
  go_wp2
  exact GG.out

theorem parse_by (base b r : Nat) (p : Int) (P : ByteArray) (s : List UInt8) (w : World) (h : Pz PT base b r s 0 (pc r P s 0 0 0 0 0 0 nobytes) w) (hs : s.length ≤ 90000) (hP : P.size ≤ 100) :
    Calls Try.prog 19 #[.pointer (some ⟨b, 0, none⟩), .int .i64 p] w (Parsed base b r (S.err p P s) s (S.cs p r P s) w) := by
  by_cases h6 : p = 6
  · subst h6; exact parse6 base b r P s w h hs hP
  · by_cases h17 : p = 17
    · subst h17; exact parse17 base b r P s w h hs hP
    · have e : S.err p P s = 1 := by unfold S.err; rw [if_neg h6, if_neg h17]
      rw [e]; exact parse_no base b r p P s _ w h6 h17

set_option maxHeartbeats 2000000 in
theorem sparse_any (p : Int) (src dst : Nat) (s : List UInt8) (w : World) (hs : s.length ≤ 90000) (hsrc : src < 4294967296) (hdst : dst < 4294967296) :
    Calls Try.prog 9 #[.int .i64 p, .int .u32 src, .int .u32 dst, .string (ba s)] w fun e w' => e = .returned (S.parsed p src dst s) ∧ Below w.heap.size w w' := by
  have hz := ba_size s
  obtain ⟨P, hP⟩ : ∃ P, P = S.ahead p src dst s := ⟨_, rfl⟩
  have hPs : P.size ≤ 100 := by rw [hP, ahead_size]; omega
  have Hps : Hid (∀ w, Calls Try.prog 18 #[.int .u32 src, .int .u32 dst, .int .i64 p, .int .i64 ((ba s).size : Int)] w fun e w' => e = .returned (.string P) ∧ Below w.heap.size w w') := Lib.hid fun w => by rw [hP, ba_size]; exact pseudo_any src dst p _ w hsrc hdst
  have Hpe : Hid (S.parsed p src dst s = .tuple #[if S.err p P s = 0 then S.seg p s else zeroS, .int .i64 (S.err p P s : Nat)]) := Lib.hid (by rw [hP]; rfl)
  have Hpar := Lib.hid (fun base b r w h => parse_by base b r p P s w h hs hPs)
  obtain ⟨a1, a2, a3, a4, a5, a6, dd, hcs, hsg⟩ := cs_pc p s
  have Hcs := Lib.hid hcs
  have HRd := Lib.hid (fun w => Read_any (ba s) w)
  rw [hsg] at Hpe
  clear hP hsg hcs
  have Hpc : Hid (∀ r, pc r P s 0 0 0 0 0 0 nobytes = #[.pointer (some ⟨r, 0, none⟩), .string P, .string (ba s), .int .i64 0, .int .i64 0, .int .u32 0, .int .u32 0, .int .i64 0, .int .i64 0, .string nobytes]) := Lib.hid fun r => rfl
  go_enter Try.func9, Try.ntmps9
  go_wp2_with fail
  refine (HRd.out _).mono ?_
  rintro e w1 ⟨rfl, hr1, hb1⟩
  have hb1s := hb1.size
  have hlt1 := lt_of_block hr1.cells
  go_wp2_with fail
  refine (Hps.out _).mono ?_
  rintro e w2 ⟨rfl, hb2⟩
  have hb2s := hb2.size
  have hr2 := (hb2.block _ hlt1).trans hr1.cells
  have hb12 := hb1.trans (hb2.mono hb1s)
  have hw0 : ∀ o : Obj, (w.alloc o).heap.size = w.heap.size + 1 := fun o => by simp
  rw [hw0] at hr2 hb12 hlt1
  have h0 : ∀ o, o = Obj.cells (pc (w.heap.size + 1) P s 0 0 0 0 0 0 nobytes) PT → Pz PT (w.heap.size + 1) w2.heap.size (w.heap.size + 1) s 0 (pc (w.heap.size + 1) P s 0 0 0 0 0 0 nobytes) (w2.alloc o) := by
    rintro o rfl
    have hl2 := lt_of_block hr2
    exact ⟨by omega, by omega, heap_alloc_new w2 _, ⟨Nat.le_refl _, (Below.heap_alloc w2 _ _ hl2).trans hr2⟩⟩
  have hbN : Below (w.heap.size + 1) (w.alloc (sgO 0 0 0 0 0 0 nobytes)) w2 := hb12
  have hN2 : w.heap.size < w2.heap.size := by have := hbN.size; rw [hw0] at this; omega
  have H0 := Lib.hid h0
  have HbN := Lib.hid hbN
  clear hr1 hr2 hb1 hb2 hb12 hb1s hb2s hlt1 h0 hbN
  go_wp2_with fail
  refine (Hpar.out (w.heap.size + 1) _ _ _ (by rw [Hpc.out]; exact H0.out _ (by rw [Hpc.out]; rfl))).mono ?_
  rintro e w3 ⟨rfl, hb3, h3⟩
  have hbw : Below (w.heap.size + 1) (w.alloc (sgO 0 0 0 0 0 0 nobytes)) w3 := (HbN.out.alloc (by omega) _).trans hb3
  have hb0 : Below w.heap.size w w3 := ((Below.refl _ w).alloc (Nat.le_refl _) _).trans (hbw.mono (by omega))
  have hcell : ∀ i : Nat, w3.cell? ⟨w.heap.size, i, none⟩ = (w.alloc (sgO 0 0 0 0 0 0 nobytes)).cell? ⟨w.heap.size, i, none⟩ := fun i => hbw.cell (p := ⟨w.heap.size, i, none⟩) (by simp)
  have hfz : ∀ i : Nat, w3.frozen? ⟨w.heap.size, i, none⟩ = (w.alloc (sgO 0 0 0 0 0 0 nobytes)).frozen? ⟨w.heap.size, i, none⟩ := fun i => hbw.frozen (p := ⟨w.heap.size, i, none⟩) (by simp)
  clear hb3 hbw HbN H0 Hpar Hps HRd
  by_cases hn : S.err p P s = 0
  · obtain ⟨k, h4⟩ := h3 hn
    rw [Hcs.out] at h4
    have c3 := h4.at 3 (.int .i64 a1) rfl
    have c4 := h4.at 4 (.int .i64 a2) rfl
    have c5 := h4.at 5 (.int .u32 a3) rfl
    have c6 := h4.at 6 (.int .u32 a4) rfl
    have c7 := h4.at 7 (.int .i64 a5) rfl
    have c8 := h4.at 8 (.int .i64 a6) rfl
    have c9 := h4.at 9 (.string dd) rfl
    rw [if_pos hn] at Hpe
    rw [hn] at Hpe ⊢
    clear h4 h3 hn Hpc Hcs
    go_wp2_with fail
    exact bodyPost_ret (v := .tuple #[sg a1 a2 a3 a4 a5 a6 dd, .int .i64 0]) (by simp [results, Try.results9, go_sem, hcell]) rfl ⟨by rw [Hpe.out]; rfl, ((((((hb0.setCell (Nat.le_refl _) _).setCell (Nat.le_refl _) _).setCell (Nat.le_refl _) _).setCell (Nat.le_refl _) _).setCell (Nat.le_refl _) _).setCell (Nat.le_refl _) _).setCell (Nat.le_refl _) _⟩
  · rw [if_neg hn] at Hpe
    generalize S.err p P s = n at *
    have hne : ((n : Int) != 0) = true := by simp; omega
    clear h3 Hpc Hcs hn
    go_wp2_with fail
    exact bodyPost_ret (v := .tuple #[sg 0 0 0 0 0 0 ⟨#[]⟩, .int .i64 n]) (by simp [results, Try.results9, go_sem, hcell]) rfl ⟨by rw [Hpe.out]; rfl, ((((((hb0.setCell (Nat.le_refl _) _).setCell (Nat.le_refl _) _).setCell (Nat.le_refl _) _).setCell (Nat.le_refl _) _).setCell (Nat.le_refl _) _).setCell (Nat.le_refl _) _).setCell (Nat.le_refl _) _⟩

#print axioms sparse_any
end Go.Proofs.Ytohemlejceiojaa
