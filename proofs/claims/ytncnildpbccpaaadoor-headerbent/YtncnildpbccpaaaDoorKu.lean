/- A packet's bytes of which one bit is turned: they are not read as that packet. No program is named here. -/
import Derived.Test.YtncnildpbccpaaaDoorKq
import Derived.StillTail
import Derived.BigQuiet
import Derived.Test.YtncnildpbccpaaaDoorKs
set_option maxRecDepth 100000
namespace Go.Proofs.YtncnildpbccpaaaDoor

theorem xor_bit : ∀ n : Fin 256, ∀ b : Fin 8, (n.val ^^^ 2 ^ b.val = n.val + 2 ^ b.val ∨ (n.val ^^^ 2 ^ b.val) + 2 ^ b.val = n.val) ∧ n.val ^^^ 2 ^ b.val < 256 := by decide +kernel

theorem xor_nat (n b : Nat) (hn : n < 256) (hb : b < 8) : (n ^^^ 2 ^ b = n + 2 ^ b ∨ (n ^^^ 2 ^ b) + 2 ^ b = n) ∧ n ^^^ 2 ^ b < 256 := xor_bit ⟨n, hn⟩ ⟨b, hb⟩

theorem pow_small (b : Nat) (hb : b < 8) : 1 ≤ 2 ^ b ∧ 2 ^ b ≤ 128 :=
  ⟨Nat.one_le_two_pow, Nat.le_trans (Nat.pow_le_pow_right (by decide) (show b ≤ 7 by omega)) (by decide)⟩

theorem fold_good (n : Nat) (h : M.fold n = 65535) : n % 65535 = 0 := by
  unfold M.fold at h
  split at h <;> omega

theorem ofs_good (T : List UInt8) (h : M.ofs [ba T] = 0) : M.acc true T % 65535 = 0 := by
  rw [ofs_one] at h
  have h1 := M.fold_le (M.acc true (ba T).data.toList)
  exact fold_good _ (by have e : (ba T).data.toList = T := ba_list T; rw [e] at h h1; omega)

theorem half_cases (f : Bool) (x : UInt8) : M.half f x = x.toNat * 256 ∨ M.half f x = x.toNat := by
  unfold M.half
  cases f
  · exact .inr rfl
  · exact .inl rfl

theorem half_two (f : Bool) (x y : UInt8) : (M.half f x = x.toNat * 256 ∧ M.half f y = y.toNat * 256) ∨ (M.half f x = x.toNat ∧ M.half f y = y.toNat) := by
  unfold M.half
  cases f
  · exact .inr ⟨rfl, rfl⟩
  · exact .inl ⟨rfl, rfl⟩

/-- Two rows that differ in one bit aren't both good. -/
theorem bit_sum (T : List UInt8) (j b : Nat) (hj : j < T.length) (hb : b < 8) (y : UInt8) (hy : y.toNat = T[j].toNat ^^^ 2 ^ b) (h1 : M.ofs [ba T] = 0) (h2 : M.ofs [ba (T.set j y)] = 0) : False := by
  have a1 := ofs_good T h1
  have a2 := ofs_good _ h2
  have e1 : T = T.take j ++ T[j] :: T.drop (j + 1) := by
    rw [List.getElem_cons_drop, List.take_append_drop]
  have e2 : T.set j y = T.take j ++ y :: T.drop (j + 1) := by
    rw [List.set_eq_take_append_cons_drop, if_pos hj]
  rw [e2, M.acc_append] at a2
  rw [e1, M.acc_append] at a1
  generalize M.flag true (T.take j).length = f at *
  simp only [M.acc] at a1 a2
  obtain ⟨hx, _⟩ := xor_nat T[j].toNat b (T[j].toNat_lt) hb
  obtain ⟨p1, p2⟩ := pow_small b hb
  rw [← hy] at hx
  generalize M.acc true (T.take j) = P at *
  generalize M.acc (!f) (T.drop (j + 1)) = R at *
  have hh := half_two f T[j] y
  generalize M.half f T[j] = u at *
  generalize M.half f y = v at *
  generalize 2 ^ b = t at *
  rcases hh with ⟨g1, g2⟩ | ⟨g1, g2⟩ <;> rcases hx with g3 | g3 <;> omega

namespace H
/-- The bytes with one bit turned. -/
def turn (s : List UInt8) (j b : Nat) : List UInt8 := s.set j (UInt8.ofNat ((s.getD j 0).toNat ^^^ 2 ^ b))

theorem turn_length (s : List UInt8) (j b : Nat) : (turn s j b).length = s.length := by simp [turn]

theorem bent (s : List UInt8) (j b : Nat) (hj : j < s.length) (hb : b < 8) (l l' : List Opt) (h : Ok s l) (h' : Ok (turn s j b) l') (hp : pkt (turn s j b) l' = pkt s l) : False := by
  have hlen := turn_length s j b
  have hdat : (turn s j b).drop (hl (turn s j b)) = s.drop (hl s) := by
    have := congrArg (fun k : Pkt => k.data.data.toList) hp
    simpa [pkt, ba_list] using this
  have hhl : hl (turn s j b) = hl s := by
    have := congrArg List.length hdat
    rw [List.length_drop, List.length_drop] at this
    have h1 := h.hlen
    have h2 := h'.hlen
    omega
  have hg : s.getD j 0 = s[j] := by rw [List.getD_eq_getElem?_getD, List.getElem?_eq_getElem hj]; rfl
  obtain ⟨hx, hx2⟩ := xor_nat s[j].toNat b (s[j].toNat_lt) hb
  obtain ⟨p1, p2⟩ := pow_small b hb
  have hy : (UInt8.ofNat ((s.getD j 0).toNat ^^^ 2 ^ b)).toNat = s[j].toNat ^^^ 2 ^ b := by rw [hg]; exact of256 _ hx2
  rw [hhl] at hdat
  by_cases hjl : j < hl s
  · have h1 := h.good
    have h2 := h'.good
    rw [hhl] at h2
    have hl1 := h.hlen
    have e : (turn s j b).take (hl s) = (s.take (hl s)).set j (UInt8.ofNat ((s.getD j 0).toNat ^^^ 2 ^ b)) := by unfold turn; rw [List.take_set]
    rw [e] at h2
    exact bit_sum (s.take (hl s)) j b (by rw [List.length_take]; omega) hb _ (by rw [hy, List.getElem_take]) h1 h2
  · have e1 : ((turn s j b).drop (hl s))[j - hl s]? = some (UInt8.ofNat ((s.getD j 0).toNat ^^^ 2 ^ b)) := by
      rw [List.getElem?_drop, show hl s + (j - hl s) = j by omega]
      unfold turn
      rw [List.getElem?_set_self hj]
    have e2 : (s.drop (hl s))[j - hl s]? = some s[j] := by
      rw [List.getElem?_drop, show hl s + (j - hl s) = j by omega, List.getElem?_eq_getElem hj]
    rw [hdat, e2] at e1
    have e3 : s[j].toNat = (UInt8.ofNat ((s.getD j 0).toNat ^^^ 2 ^ b)).toNat := congrArg UInt8.toNat (Option.some.inj e1)
    rw [hy] at e3
    omega
end H
#print axioms H.bent
end Go.Proofs.YtncnildpbccpaaaDoor

namespace Go.Proofs.YtncnildpbccpaaaDoor
open Go
section
variable {P : Program} {ops : Array Oper} {md : Region.Mode} {C : World → Prop}

/-- Whatever order is picked among the first n operations, f of them still to come: then L. -/
def AnyT (P : Program) (md : Region.Mode) (ops : Array Oper) (C : World → Prop) (n : Nat) (L : Array Bool → Act → Prop) : Nat → Array Bool → Act → Prop
  | 0, listed, a => L listed a
  | f + 1, listed, a =>
    Region.ready md ops listed ≠ [] ∧ ∀ i ∈ Region.ready md ops listed, i < n ∧ qOp P ops C i (AnyT P md ops C n L f (listed.setIfInBounds i true)) a

theorem any_of_T {n g : Nat} {L : Array Bool → Act → Prop} {Q' : Exit → Act → World → Prop} (hL : ∀ listed a w, C w → L listed a → wpAny P md ops Q' g listed a w) :
    ∀ (f : Nat) (listed : Array Bool) (a : Act) (w : World), C w → AnyT P md ops C n L f listed a → wpAny P md ops Q' (f + g) listed a w
  | 0, listed, a, w, hw, h => by rw [Nat.zero_add]; exact hL _ _ _ hw h
  | f + 1, listed, a, w, hw, h => by
    rw [show f + 1 + g = (f + g) + 1 by omega]
    exact ⟨fun h0 => absurd h0 h.1, fun i hi => wpOp_of_qOp hw (fun a' w' hw' h' => any_of_T hL f _ a' w' hw' h') (h.2 i hi).2⟩

theorem T_first {n i : Nat} {oi : Oper} {v : Value} {L : Array Bool → Act → Prop} (hi : ops[i]? = some oi) (hsel : ∀ (j : Nat) (o : Oper) cs b, ops[j]? = some o → o.op ≠ .select cs b)
    (hs : Region.sinkB md ops n = true) (hc : Region.chainB md ops n = true) (hn : n < ops.size) (hin : i < n)
    (hdone : ∀ listed a, L listed a → ∀ j ∈ Region.ready md ops listed, n ≤ j) (f : Nat) :
    ∀ (listed : Array Bool) (a : Act), HeadInv md ops n listed →
      (∀ j oj, ops[j]? = some oj → j ≠ i → listed.getD j true = false → (∀ e ∈ oj.after, Region.binds md e = true → e.on ≠ i) → oi.apart ops oj = true) →
      i ∈ Region.ready md ops listed → YieldsIn P ops C oi v a →
      AnyT P md ops C n L f (listed.setIfInBounds i true) (a.put oi.dst v) → AnyT P md ops C n L (f + 1) listed a := by
  induction f with
  | zero =>
    intro listed a inv _ hr hy H
    have hun := (mem_ready.1 hr).1
    refine ⟨List.ne_nil_of_mem hr, fun j hj => ?_⟩
    have hjn : j < n := Nat.lt_of_not_le fun h => tail_waits hs hc hn inv _ i rfl hin hun j h hj
    refine ⟨hjn, ?_⟩
    by_cases hji : j = i
    · subst hji
      exact hy.qOp hi H
    · have := hdone _ _ H j (ready_mono hj hji)
      omega
  | succ f ih =>
    intro listed a inv hfree hr hy H
    have hun := (mem_ready.1 hr).1
    refine ⟨List.ne_nil_of_mem hr, fun j hj => ?_⟩
    have hjn : j < n := Nat.lt_of_not_le fun h => tail_waits hs hc hn inv _ i rfl hin hun j h hj
    refine ⟨hjn, ?_⟩
    by_cases hji : j = i
    · subst hji
      exact hy.qOp hi H
    · have h1 := (H.2 j (ready_mono hj hji)).2
      obtain ⟨hjun, oj, hoj, hall⟩ := mem_ready.1 hj
      have hnot : ∀ e ∈ oj.after, Region.binds md e = true → e.on ≠ i := fun e he hb heq => by
        have h1 := hall e he hb
        rw [heq, getD_both hun] at h1
        cases h1
      have h2 := qOp_put hoj (hfree j oj hoj hji hjun hnot) (fun cs b => hsel i oi cs b hi) (fun cs b => hsel j oj cs b hoj) hy h1
      refine qOp_mono (fun a' h3 => ih (listed.setIfInBounds j true) a' (inv.set hj hjn) (fun k ok hk hki hunk hno => ?_) (ready_mono hr (Ne.symm hji)) h3.1 ?_) h2
      · refine hfree k ok hk hki ?_ hno
        by_cases hjk : j = k
        · subst hjk
          exact hjun
        · rwa [getD_set_ne true hjk] at hunk
      · rw [Array.setIfInBounds_comm _ _ hji]
        exact h3.2

theorem T_lex {n g : Nat} {Lq : Act → Prop} (hsel : Region.noSelect ops = true) (hs : Region.sinkB md ops n = true) (hc : Region.chainB md ops n = true) (hn : n < ops.size) :
    ∀ (l : List Oper) (k : Nat) (listed : Array Bool) (a : Act), (∀ j, j < l.length → l[j]? = ops[k + j]?) → k + l.length = n → HeadInv md ops n listed →
    Region.lexHead md ops g l.length k listed = true → wpQuiet P ops C Lq l a →
    AnyT P md ops C n (fun listed' a' => Region.seqB md ops g n listed' = true ∧ Lq a') l.length listed a
  | [], k, listed, a, _, hk, _, hB, h => by
    have : k = n := by simpa using hk
    subst this
    exact ⟨by simpa [Region.lexHead] using hB, h⟩
  | o :: l, k, listed, a, hl, hk, inv, hB, h => by
    have h0 : ops[k]? = some o := by simpa using (hl 0 (by simp)).symm
    simp only [List.length_cons, Region.lexHead, Bool.and_eq_true] at hB
    obtain ⟨⟨hr, hf⟩, hB'⟩ := hB
    simp only [List.length_cons] at hk
    have hkn : k < n := by omega
    have hr' : k ∈ Region.ready md ops listed := by simpa using hr
    have hst : qOp P ops C k (wpQuiet P ops C Lq l) a := by
      unfold qOp
      simp only [h0]
      exact h
    obtain ⟨v, hy, hK⟩ := yieldsIn_of_qOp h0 hst
    refine T_first h0 (Region.noSelect_spec hsel) hs hc hn hkn (fun listed' a' hL => seqB_ready hL.1) l.length listed a inv (Region.free_spec h0 hf) hr' hy ?_
    refine T_lex hsel hs hc hn l (k + 1) _ _ (fun j hj => ?_) (by omega) (inv.set hr' hkn) hB' hK
    have := hl (j + 1) (by simp; omega)
    simpa [Nat.add_assoc, Nat.add_comm 1 j] using this

/-- The walk: the first n operations quietly, in the order of the text; what stands behind them in every world that comes of draws alone. -/
theorem region_quiet_tail {id : Nat} {Q : Exit → Act → World → Prop} {a : Act} {w : World} {l : List Oper} (n : Nat) (hm : P.follows .mixedOrders = true) (hB : Region.lexTailB .any l.toArray n = true)
    (h : wpQuiet P l.toArray (fun w' => ∃ k, w' = w.drewN k) (fun a' => ∀ w', (∃ k, w' = w.drewN k) → wpList P l.toArray Q (l.drop n) a' w') (l.take n) a) : (Code.region id l.toArray true).wp P Q a w := by
  simp only [Region.lexTailB, Bool.and_eq_true, decide_eq_true_eq] at hB
  obtain ⟨⟨⟨⟨hsel, hn⟩, hs⟩, hc⟩, hlex⟩ := hB
  have hn' : n < l.length := by simpa using hn
  have htl : (l.take n).length = n := by simp; omega
  have hdl : (l.drop n).length = l.toArray.size - n := by simp
  have inv0 : HeadInv .any l.toArray n (Array.replicate l.toArray.size false) :=
    ⟨by simp, fun j oj _ hl => (by rw [getD_replicate_false] at hl; cases hl), fun t _ ht => getD_in (by simpa using ht) (getD_replicate_false _ _)⟩
  have H := T_lex (md := .any) (g := l.toArray.size - n) hsel hs hc hn (l.take n) 0 _ a (fun j hj => by
    have hj' : j < n := by rw [htl] at hj; exact hj
    simp [hj']) (by simpa using htl) inv0 (by rw [htl]; exact hlex) h
  refine wp_region_any hm ?_
  have := any_of_T (Q' := Q) (g := l.toArray.size - n) (fun listed a' w' hw' hL => by
    have := wpAny_of_seq (md := .any) (Q' := Q) (l.drop n) n listed a' w' (fun j => by simp [List.getElem?_drop]) (by rw [hdl]; exact hL.1) (hL.2 w' hw')
    rwa [hdl] at this) _ _ _ { w with drawn := w.drawn + 1 } ⟨1, rfl⟩ H
  rw [htl, show n + (l.toArray.size - n) = l.toArray.size by omega] at this
  exact this
end
#print axioms region_quiet_tail
end Go.Proofs.YtncnildpbccpaaaDoor

namespace Go.Proofs.YtncnildpbccpaaaDoor
open Go.RowKit
set_option linter.unusedVariables false

set_option maxHeartbeats 2000000 in
theorem hbt_great (x0 x1 : Int) (x2 x3 : Bool) (x4 x5 x6 x7 x8 : Int) (x10 : ByteArray) (o1 : Option Addr) (c1 : Nat) (l : List Opt) (at_ : Nat) (w : World) (h1 : OptRow w o1 l) (hl : l.length ≤ maxLen) (hld : ∀ o ∈ l, o.data.size ≤ maxLen) (hx : x10.size ≤ maxLen) (hg : H.great l x10.size = true) :
    Calls Tryd.prog 8 #[pk x0 x1 x2 x3 x4 x5 x6 x7 x8 (.slice o1 l.length c1) x10, .int .u32 (at_ : Nat)] w fun e w' => e = .returned (.bool true) ∧ Below w.heap.size w w' := by
  have hp0 : PkAt w.heap.size (pkO x0 x1 x2 x3 x4 x5 x6 x7 x8 (.slice o1 l.length c1) x10) o1 l (w.alloc (pkO x0 x1 x2 x3 x4 x5 x6 x7 x8 (.slice o1 l.length c1) x10)) := ⟨heap_alloc_new w _, h1.carry ((Below.refl _ w).alloc (Nat.le_refl _) _)⟩
  have hb0 : Below w.heap.size w (w.alloc (pkO x0 x1 x2 x3 x4 x5 x6 x7 x8 (.slice o1 l.length c1) x10)) := (Below.refl _ w).alloc (Nat.le_refl _) _
  have Hc : Hid (∀ w' : World, PkAt w.heap.size (pkO x0 x1 x2 x3 x4 x5 x6 x7 x8 (.slice o1 l.length c1) x10) o1 l w' → w'.cell? ⟨w.heap.size, 0, none⟩ = some (.int .i64 x0) ∧ w'.cell? ⟨w.heap.size, 1, none⟩ = some (.int .i64 x1) ∧ w'.cell? ⟨w.heap.size, 2, none⟩ = some (.bool x2) ∧ w'.cell? ⟨w.heap.size, 3, none⟩ = some (.bool x3) ∧ w'.cell? ⟨w.heap.size, 4, none⟩ = some (.int .i64 x4) ∧ w'.cell? ⟨w.heap.size, 5, none⟩ = some (.int .i64 x5) ∧ w'.cell? ⟨w.heap.size, 6, none⟩ = some (.int .i64 x6) ∧ w'.cell? ⟨w.heap.size, 7, none⟩ = some (.int .u32 x7) ∧ w'.cell? ⟨w.heap.size, 8, none⟩ = some (.int .u32 x8) ∧ w'.cell? ⟨w.heap.size, 9, none⟩ = some ((.slice o1 l.length c1)) ∧ w'.cell? ⟨w.heap.size, 10, none⟩ = some (.string x10)) :=
    Lib.hid fun w' hw' => by
      have q1 := hw'.blk
      simp [World.cell?, q1]
  have HG1 := Lib.hid (fun w' (h' : OptRow w' o1 l) => hgreat_any x0 x1 x2 x3 x4 x5 x6 x7 x8 x10 o1 c1 l w' h' hl hld hx)
  rw [hg] at HG1
  clear h1 hl hld hx
  go_enter Tryd.func8, Tryd.ntmps8
  go_wp2_with fail
  refine (HG1.out _ hp0.row).mono ?_
  rintro e w1 ⟨rfl, hb1⟩
  have hp1 := hp0.carry hb1
  have hb1w := hb0.trans (hb1.mono hb0.size)
  obtain ⟨k0, k1, k2, k3, k4, k5, k6, k7, k8, k9, k10⟩ := Hc.out _ hp1
  clear hp0 hb0 hb1 HG1
  clear k0 k1 k2 k3 k4 k5 k6 k7 k8 k9 k10
  go_wp2_with fail
  refine (awake5_any _).mono ?_
  rintro e wA ⟨rfl, hbA⟩
  have hbAw := hb1w.trans (hbA.mono hb1w.size)
  clear hbA hb1w
  go_wp2
  go_ret
  exact ⟨rfl, hbAw⟩

set_option maxHeartbeats 2000000 in
theorem hbt_long (x0 x1 : Int) (x2 x3 : Bool) (x4 x5 x6 x7 x8 : Int) (x10 : ByteArray) (o1 : Option Addr) (c1 : Nat) (l : List Opt) (at_ : Nat) (w : World) (h1 : OptRow w o1 l) (hl : l.length ≤ maxLen) (hld : ∀ o ∈ l, o.data.size ≤ maxLen) (hx : x10.size ≤ maxLen) (hg : H.great l x10.size = false) (h2 : 2000 < x10.size) :
    Calls Tryd.prog 8 #[pk x0 x1 x2 x3 x4 x5 x6 x7 x8 (.slice o1 l.length c1) x10, .int .u32 (at_ : Nat)] w fun e w' => e = .returned (.bool true) ∧ Below w.heap.size w w' := by
  have hp0 : PkAt w.heap.size (pkO x0 x1 x2 x3 x4 x5 x6 x7 x8 (.slice o1 l.length c1) x10) o1 l (w.alloc (pkO x0 x1 x2 x3 x4 x5 x6 x7 x8 (.slice o1 l.length c1) x10)) := ⟨heap_alloc_new w _, h1.carry ((Below.refl _ w).alloc (Nat.le_refl _) _)⟩
  have hb0 : Below w.heap.size w (w.alloc (pkO x0 x1 x2 x3 x4 x5 x6 x7 x8 (.slice o1 l.length c1) x10)) := (Below.refl _ w).alloc (Nat.le_refl _) _
  have Hc : Hid (∀ w' : World, PkAt w.heap.size (pkO x0 x1 x2 x3 x4 x5 x6 x7 x8 (.slice o1 l.length c1) x10) o1 l w' → w'.cell? ⟨w.heap.size, 0, none⟩ = some (.int .i64 x0) ∧ w'.cell? ⟨w.heap.size, 1, none⟩ = some (.int .i64 x1) ∧ w'.cell? ⟨w.heap.size, 2, none⟩ = some (.bool x2) ∧ w'.cell? ⟨w.heap.size, 3, none⟩ = some (.bool x3) ∧ w'.cell? ⟨w.heap.size, 4, none⟩ = some (.int .i64 x4) ∧ w'.cell? ⟨w.heap.size, 5, none⟩ = some (.int .i64 x5) ∧ w'.cell? ⟨w.heap.size, 6, none⟩ = some (.int .i64 x6) ∧ w'.cell? ⟨w.heap.size, 7, none⟩ = some (.int .u32 x7) ∧ w'.cell? ⟨w.heap.size, 8, none⟩ = some (.int .u32 x8) ∧ w'.cell? ⟨w.heap.size, 9, none⟩ = some ((.slice o1 l.length c1)) ∧ w'.cell? ⟨w.heap.size, 10, none⟩ = some (.string x10)) :=
    Lib.hid fun w' hw' => by
      have q1 := hw'.blk
      simp [World.cell?, q1]
  have HG1 := Lib.hid (fun w' (h' : OptRow w' o1 l) => hgreat_any x0 x1 x2 x3 x4 x5 x6 x7 x8 x10 o1 c1 l w' h' hl hld hx)
  rw [hg] at HG1
  unfold maxLen at hx
  clear h1 hl hld
  go_enter Tryd.func8, Tryd.ntmps8
  go_wp2_with fail
  refine (HG1.out _ hp0.row).mono ?_
  rintro e w1 ⟨rfl, hb1⟩
  have hp1 := hp0.carry hb1
  have hb1w := hb0.trans (hb1.mono hb0.size)
  obtain ⟨k0, k1, k2, k3, k4, k5, k6, k7, k8, k9, k10⟩ := Hc.out _ hp1
  clear hp0 hb0 hb1 HG1
  go_wp2_with fail
  clear k0 k1 k2 k3 k4 k5 k6 k7 k8 k9 k10
  refine (awake5_any _).mono ?_
  rintro e wA ⟨rfl, hbA⟩
  have hbAw := hb1w.trans (hbA.mono hb1w.size)
  clear hbA hb1w
  go_wp2
  go_ret
  exact ⟨rfl, hbAw⟩

set_option maxHeartbeats 2000000 in
theorem hbt_no (x0 x1 : Int) (x2 x3 : Bool) (x4 x5 x6 x7 x8 : Int) (x10 : ByteArray) (o1 : Option Addr) (c1 : Nat) (l : List Opt) (at_ : Nat) (w : World) (h1 : OptRow w o1 l) (hl : l.length ≤ maxLen) (hld : ∀ o ∈ l, o.data.size ≤ maxLen) (hx : x10.size ≤ maxLen) (hg : H.great l x10.size = false) (h2 : ¬ 2000 < x10.size) (hr : H.right x0 x1 x4 x5 x6 l x10.size = false) :
    Calls Tryd.prog 8 #[pk x0 x1 x2 x3 x4 x5 x6 x7 x8 (.slice o1 l.length c1) x10, .int .u32 (at_ : Nat)] w fun e w' => e = .returned (.bool true) ∧ Below w.heap.size w w' := by
  have hp0 : PkAt w.heap.size (pkO x0 x1 x2 x3 x4 x5 x6 x7 x8 (.slice o1 l.length c1) x10) o1 l (w.alloc (pkO x0 x1 x2 x3 x4 x5 x6 x7 x8 (.slice o1 l.length c1) x10)) := ⟨heap_alloc_new w _, h1.carry ((Below.refl _ w).alloc (Nat.le_refl _) _)⟩
  have hb0 : Below w.heap.size w (w.alloc (pkO x0 x1 x2 x3 x4 x5 x6 x7 x8 (.slice o1 l.length c1) x10)) := (Below.refl _ w).alloc (Nat.le_refl _) _
  have Hc : Hid (∀ w' : World, PkAt w.heap.size (pkO x0 x1 x2 x3 x4 x5 x6 x7 x8 (.slice o1 l.length c1) x10) o1 l w' → w'.cell? ⟨w.heap.size, 0, none⟩ = some (.int .i64 x0) ∧ w'.cell? ⟨w.heap.size, 1, none⟩ = some (.int .i64 x1) ∧ w'.cell? ⟨w.heap.size, 2, none⟩ = some (.bool x2) ∧ w'.cell? ⟨w.heap.size, 3, none⟩ = some (.bool x3) ∧ w'.cell? ⟨w.heap.size, 4, none⟩ = some (.int .i64 x4) ∧ w'.cell? ⟨w.heap.size, 5, none⟩ = some (.int .i64 x5) ∧ w'.cell? ⟨w.heap.size, 6, none⟩ = some (.int .i64 x6) ∧ w'.cell? ⟨w.heap.size, 7, none⟩ = some (.int .u32 x7) ∧ w'.cell? ⟨w.heap.size, 8, none⟩ = some (.int .u32 x8) ∧ w'.cell? ⟨w.heap.size, 9, none⟩ = some ((.slice o1 l.length c1)) ∧ w'.cell? ⟨w.heap.size, 10, none⟩ = some (.string x10)) :=
    Lib.hid fun w' hw' => by
      have q1 := hw'.blk
      simp [World.cell?, q1]
  have HG1 := Lib.hid (fun w' (h' : OptRow w' o1 l) => hgreat_any x0 x1 x2 x3 x4 x5 x6 x7 x8 x10 o1 c1 l w' h' hl hld hx)
  rw [hg] at HG1
  obtain ⟨g1, g2, g3⟩ := H.great_no _ _ hg
  have HE : Hid (∀ w', OptRow w' o1 l → Calls Tryd.prog 22 #[pk x0 x1 x2 x3 x4 x5 x6 x7 x8 (.slice o1 l.length c1) x10] w' fun e w'' => e = .returned (.tuple #[.string ⟨#[]⟩, .int .i64 1]) ∧ Below w'.heap.size w' w'') := Lib.hid fun w' h' => henc_bad x0 x1 x2 x3 x4 x5 x6 x7 x8 o1 c1 l x10 w' h' g1 g2 (by omega) hr
  clear h1 hl hld hx
  go_enter Tryd.func8, Tryd.ntmps8
  go_wp2_with fail
  refine (HG1.out _ hp0.row).mono ?_
  rintro e w1 ⟨rfl, hb1⟩
  have hp1 := hp0.carry hb1
  have hb1w := hb0.trans (hb1.mono hb0.size)
  obtain ⟨k0, k1, k2, k3, k4, k5, k6, k7, k8, k9, k10⟩ := Hc.out _ hp1
  clear hp0 hb0 hb1 HG1
  go_wp2_with fail
  refine (HE.out _ hp1.row).mono ?_
  rintro e w2 ⟨rfl, hb2⟩
  have hb2w := hb1w.trans (hb2.mono hb1w.size)
  clear k0 k1 k2 k3 k4 k5 k6 k7 k8 k9 k10
  clear hb2 hb1w hp1 HE Hc
  go_wp2_with fail
  refine (awake5_any _).mono ?_
  rintro e wA ⟨rfl, hbA⟩
  have hbAw := hb2w.trans (hbA.mono hb2w.size)
  clear hbA hb2w
  go_wp2
  go_ret
  exact ⟨rfl, hbAw⟩


set_option maxHeartbeats 4000000 in
theorem hbt_err (x0 x1 : Int) (x2 x3 : Bool) (x4 x5 x6 x7 x8 : Int) (x10 : ByteArray) (o1 : Option Addr) (c1 : Nat) (l : List Opt) (at_ : Nat) (w : World) (h1 : OptRow w o1 l) (hl : l.length ≤ maxLen) (hld : ∀ o ∈ l, o.data.size ≤ maxLen) (hx : x10.size ≤ maxLen) (hg : H.great l x10.size = false) (h2 : ¬ 2000 < x10.size) (hat : at_ < 4294967296) (s : ByteArray) (n : Nat) (hn : s.size = n) (hn1 : 20 ≤ n) (hn2 : n ≤ 3000) (m : Nat) (hm : 2 ≤ m)
    (HE : Hid (∀ w', OptRow w' o1 l → Calls Tryd.prog 22 #[pk x0 x1 x2 x3 x4 x5 x6 x7 x8 (.slice o1 l.length c1) x10] w' fun e w'' => e = .returned (.tuple #[.string s, .int .i64 0]) ∧ Below w'.heap.size w' w''))
    (HP : Hid (∀ w', Calls Tryd.prog 17 #[.string (ba (H.turn s.data.toList (at_ % (8 * n) / 8) (at_ % (8 * n) % 8)))] w' fun e w'' => e = .returned (.tuple #[zeroV, .int .i64 (m : Nat)]) ∧ Below w'.heap.size w' w'')) :
    Calls Tryd.prog 8 #[pk x0 x1 x2 x3 x4 x5 x6 x7 x8 (.slice o1 l.length c1) x10, .int .u32 (at_ : Nat)] w fun e w' => e = .returned (.bool true) ∧ Below w.heap.size w w' := by
  have hp0 : PkAt w.heap.size (pkO x0 x1 x2 x3 x4 x5 x6 x7 x8 (.slice o1 l.length c1) x10) o1 l (w.alloc (pkO x0 x1 x2 x3 x4 x5 x6 x7 x8 (.slice o1 l.length c1) x10)) := ⟨heap_alloc_new w _, h1.carry ((Below.refl _ w).alloc (Nat.le_refl _) _)⟩
  have hb0 : Below w.heap.size w (w.alloc (pkO x0 x1 x2 x3 x4 x5 x6 x7 x8 (.slice o1 l.length c1) x10)) := (Below.refl _ w).alloc (Nat.le_refl _) _
  have Hc : Hid (∀ w' : World, PkAt w.heap.size (pkO x0 x1 x2 x3 x4 x5 x6 x7 x8 (.slice o1 l.length c1) x10) o1 l w' → w'.cell? ⟨w.heap.size, 0, none⟩ = some (.int .i64 x0) ∧ w'.cell? ⟨w.heap.size, 1, none⟩ = some (.int .i64 x1) ∧ w'.cell? ⟨w.heap.size, 2, none⟩ = some (.bool x2) ∧ w'.cell? ⟨w.heap.size, 3, none⟩ = some (.bool x3) ∧ w'.cell? ⟨w.heap.size, 4, none⟩ = some (.int .i64 x4) ∧ w'.cell? ⟨w.heap.size, 5, none⟩ = some (.int .i64 x5) ∧ w'.cell? ⟨w.heap.size, 6, none⟩ = some (.int .i64 x6) ∧ w'.cell? ⟨w.heap.size, 7, none⟩ = some (.int .u32 x7) ∧ w'.cell? ⟨w.heap.size, 8, none⟩ = some (.int .u32 x8) ∧ w'.cell? ⟨w.heap.size, 9, none⟩ = some ((.slice o1 l.length c1)) ∧ w'.cell? ⟨w.heap.size, 10, none⟩ = some (.string x10)) :=
    Lib.hid fun w' hw' => by
      have q1 := hw'.blk
      simp [World.cell?, q1]
  have HG1 := Lib.hid (fun w' (h' : OptRow w' o1 l) => hgreat_any x0 x1 x2 x3 x4 x5 x6 x7 x8 x10 o1 c1 l w' h' hl hld hx)
  rw [hg] at HG1
  have HR1 := Lib.hid h1
  clear h1 hl hld hx
  have hne1 : ¬ s = (⟨#[]⟩ : ByteArray) := fun e => by rw [e] at hn; have h0 : (⟨#[]⟩ : ByteArray).size = 0 := rfl; omega
  have hne3 : s.toList.isEmpty = false := by
    rw [List.isEmpty_eq_false_iff, Lib.toList_data]
    intro e
    have := congrArg List.length e
    rw [Array.length_toList] at this
    exact absurd (show s.size = 0 from this) (by omega)
  have hK : at_ % (8 * n) < 8 * n := Nat.mod_lt _ (by omega)
  have hmod : (at_ : Int) % (8 * (n : Int)) = ((at_ % (8 * n) : Nat) : Int) := by rw [Int.natCast_emod]; simp
  have hmod2 : (at_ : Int).tmod (8 * (n : Int)) = ((at_ % (8 * n) : Nat) : Int) := by rw [Int.tmod_eq_emod_of_nonneg (by omega)]; exact hmod
  have hq0 : ¬ (8 * (n : Int)) = 0 := by omega
  have jw1 : IntKind.i64.wrap (8 * (n : Int)) = 8 * (n : Int) := IntWalk.i64_in _ (by omega)
  have jw2 : IntKind.u32.wrap (8 * (n : Int)) = 8 * (n : Int) := IntWalk.u32_in _ (by omega)
  generalize hKe : at_ % (8 * n) = K at *
  have jw3 : IntKind.i64.wrap (K : Int) = (K : Int) := IntWalk.i64_in _ (by omega)
  have jw4 : IntKind.u32.wrap (K : Int) = (K : Int) := IntWalk.u32_in _ (by omega)
  have hdv : (K : Int) / 8 = ((K / 8 : Nat) : Int) := by omega
  have hmd : (K : Int) % 8 = ((K % 8 : Nat) : Int) := by omega
  have hjn : K / 8 < n := by omega
  have hb8 : K % 8 < 8 := by omega
  have Hb7 := Lib.hid (fun w => run_bytes_of_string (P := Tryd.prog) w 9 45 5 s Tryd.underlying9 Tryd.underlying45 Tryd.underlying5)
  go_enter Tryd.func8, Tryd.ntmps8
  go_wp2_with fail
  refine (HG1.out _ hp0.row).mono ?_
  rintro e w1 ⟨rfl, hb1⟩
  have hp1 := hp0.carry hb1
  have hb1w := hb0.trans (hb1.mono hb0.size)
  obtain ⟨k0, k1, k2, k3, k4, k5, k6, k7, k8, k9, k10⟩ := Hc.out _ hp1
  clear hp0 hb0 hb1 HG1
  go_wp2_with fail
  refine (HE.out _ hp1.row).mono ?_
  rintro e w2 ⟨rfl, hb2⟩
  have hp2 := hp1.carry hb2
  have hb2w := hb1w.trans (hb2.mono hb1w.size)
  clear k0 k1 k2 k3 k4 k5 k6 k7 k8 k9 k10
  clear hb2 hb1w hp1 HE
  go_upto_region 7 with fail
  have hb7 := Hb7.out w2
  go_upto_region 8 with fail
  clear hb7 Hb7
  have hbs : n ≤ (bytesRow s (grownCap w2 n 0 5)).size := by unfold bytesRow; rw [Array.size_append, Array.size_map]; show n ≤ s.size + _; omega
  have hcell : ∀ i (hi : i < n), ((w2.alloc (.cells (bytesRow s (grownCap w2 n 0 5)) 5 ((bytesRow s (grownCap w2 n 0 5)).size, (bytesRow s (grownCap w2 n 0 5)).size + 1))).drew).cell? ⟨w2.heap.size, i, none⟩ = some (.int .u8 ((s.data[i]'(by rw [← hn] at hi; exact hi)).toNat : Int)) := fun i hi => (World.cell?_alloc_mark w2 _ _ _ i).trans (bytesRow_at s _ i (by rw [← hn] at hi; exact hi))
  have hfz : ∀ i, i < n → ((w2.alloc (.cells (bytesRow s (grownCap w2 n 0 5)) 5 ((bytesRow s (grownCap w2 n 0 5)).size, (bytesRow s (grownCap w2 n 0 5)).size + 1))).drew).frozen? ⟨w2.heap.size, i, none⟩ = false := fun i hi => (World.frozen?_alloc_mark w2 _ _ _ _ i).trans (by rw [decide_eq_false (by omega)]; rfl)
  have hb3w := (hb2w.alloc hb2w.size (.cells (bytesRow s (grownCap w2 n 0 5)) 5 ((bytesRow s (grownCap w2 n 0 5)).size, (bytesRow s (grownCap w2 n 0 5)).size + 1))).drew
  have hp3 := hp2.carry (((Below.refl _ w2).alloc (Nat.le_refl _) (.cells (bytesRow s (grownCap w2 n 0 5)) 5 ((bytesRow s (grownCap w2 n 0 5)).size, (bytesRow s (grownCap w2 n 0 5)).size + 1))).drew)
  have hNB : w.heap.size < w2.heap.size := lt_of_block hp2.blk
  have hsz3 : w2.heap.size < ((w2.alloc (.cells (bytesRow s (grownCap w2 n 0 5)) 5 ((bytesRow s (grownCap w2 n 0 5)).size, (bytesRow s (grownCap w2 n 0 5)).size + 1))).drew).heap.size := by simp
  generalize ((w2.alloc (.cells (bytesRow s (grownCap w2 n 0 5)) 5 ((bytesRow s (grownCap w2 n 0 5)).size, (bytesRow s (grownCap w2 n 0 5)).size + 1))).drew) = w3 at *
  generalize grownCap w2 n 0 5 = gc at *
  have hrlt : ∀ a off, o1 = some ⟨a, off, none⟩ → True := fun _ _ _ => trivial
  clear hb2w hbs hrlt
  generalize hBe : w2.heap.size = B at *
  have hj0 : K / 8 < s.data.size := by rw [← hn] at hjn; exact hjn
  obtain ⟨x, hxe⟩ : ∃ x : Nat, (s.data[K / 8]'hj0).toNat = x := ⟨_, rfl⟩
  have hx256 : x < 256 := by rw [← hxe]; exact UInt8.toNat_lt _
  have hcj : w3.cell? ⟨B, K / 8, none⟩ = some (.int .u8 (x : Nat)) := by rw [hcell _ hjn, hxe]
  have hfj := hfz _ hjn
  have hxor : bits .xor .u8 ((x : Nat) : Int) ((2 : Int) ^ (K % 8) % 256) = ((x ^^^ 2 ^ (K % 8) : Nat) : Int) := by
    have hp := pow_small (K % 8) hb8
    have e1 : (2 : Int) ^ (K % 8) % 256 = ((2 ^ (K % 8) : Nat) : Int) := by
      have e2 : (2 : Int) ^ (K % 8) = ((2 ^ (K % 8) : Nat) : Int) := by simp
      rw [e2]
      generalize 2 ^ (K % 8) = t at *
      omega
    rw [e1]
    exact u8_xor_nat x (2 ^ (K % 8)) hx256 (by omega)
  have hY256 : x ^^^ 2 ^ (K % 8) < 256 := (xor_nat x (K % 8) hx256 hb8).2
  have hTL : ∀ i (hi : i < n), ((H.turn s.data.toList (K / 8) (K % 8)).getD i 0).toNat = if i = K / 8 then x ^^^ 2 ^ (K % 8) else (s.data[i]'(by rw [← hn] at hi; exact hi)).toNat := fun i hi => by
    have hg : s.data.toList.getD (K / 8) 0 = s.data[K / 8]'hj0 := by rw [List.getD_eq_getElem?_getD, List.getElem?_eq_getElem (by rw [Array.length_toList]; exact hj0)]; simp
    rw [List.getD_eq_getElem?_getD]
    unfold H.turn
    rw [List.getElem?_set]
    by_cases hij : K / 8 = i
    · rw [if_pos hij, if_pos (by rw [Array.length_toList]; exact hj0), if_pos hij.symm, hg, hxe, Option.getD_some]
      exact H.of256 _ hY256
    · rw [if_neg hij, if_neg (Ne.symm hij), List.getElem?_eq_getElem (by rw [Array.length_toList]; rw [← hn] at hi; exact hi), Option.getD_some]
      simp
  have hTLn : (H.turn s.data.toList (K / 8) (K % 8)).length = n := by rw [H.turn_length, Array.length_toList]; exact hn
  generalize H.turn s.data.toList (K / 8) (K % 8) = TL at *
  generalize x ^^^ 2 ^ (K % 8) = Y at *
  have jx1 : (0 : Int) ≤ ((K / 8 : Nat) : Int) := by omega
  have jx2 : ((K / 8 : Nat) : Int) < (n : Int) := by omega
  generalize hje : K / 8 = j at *
  generalize hbe : K % 8 = bb at *
  refine region_quiet_tail 13 (by kernel_rfl) (by kernel_rfl) ?_
  simp only [List.take_succ_cons, List.take_zero, List.drop_succ_cons, List.drop_zero]
  repeat (go_big_quiet_step (fail))
  refine wpQuiet_nil ?_
  rintro _ ⟨nr, rfl⟩
  have hcell4 : ∀ i (hi : i < n), (w3.drewN nr).cell? ⟨B, i, none⟩ = some (.int .u8 ((s.data[i]'(by rw [← hn] at hi; exact hi)).toNat : Int)) := hcell
  have hcj4 : (w3.drewN nr).cell? ⟨B, j, none⟩ = some (.int .u8 (x : Nat)) := hcj
  have hfj4 : (w3.drewN nr).frozen? ⟨B, j, none⟩ = false := hfj
  have hb4w : Below w.heap.size w (w3.drewN nr) := belowN hb3w nr
  have hp4 := hp3.carry (belowN (Below.refl w3.heap.size w3) nr)
  generalize w3.drewN nr = w4 at *
  clear hcell hfz hcj hfj hb3w hp3 hsz3
  go_upto_region 9 with fail
  have hNB' : w.heap.size ≤ B := by omega
  have hb5w : Below w.heap.size w (w4.setCell ⟨B, j, none⟩ (.int .u8 (Y : Nat))) := hb4w.setCell hNB' _
  have hp5 : PkAt w.heap.size (pkO x0 x1 x2 x3 x4 x5 x6 x7 x8 (.slice o1 l.length c1) x10) o1 l (w4.setCell ⟨B, j, none⟩ (.int .u8 (Y : Nat))) := ⟨(Below.heap_setCell _ _ _ _ (by simp only; omega)).trans hp4.blk, HR1.out.carry hb5w⟩
  have hcv : (convert 45 9 (.slice (some ⟨B, 0, none⟩) n gc)).run Tryd.prog (w4.setCell ⟨B, j, none⟩ (.int .u8 (Y : Nat))) = .ok (.string ⟨TL.toArray⟩) (w4.setCell ⟨B, j, none⟩ (.int .u8 (Y : Nat))) := by
    have := run_convert_bytes_back (P := Tryd.prog) (w4.setCell ⟨B, j, none⟩ (.int .u8 (Y : Nat))) 45 9 5 ⟨B, 0, none⟩ gc TL Tryd.underlying45 Tryd.underlying5 Tryd.underlying9 (fun i hi => by
      have hgd : TL[i] = TL.getD i 0 := by rw [List.getD_eq_getElem?_getD, List.getElem?_eq_getElem hi]; rfl
      rw [hTLn] at hi
      rw [Addr.add_lit, Nat.zero_add, hgd, hTL i hi]
      by_cases hij : i = j
      · subst hij
        rw [if_pos rfl]
        exact World.cell?_setCell_same _ _ _ hcj4
      · rw [if_neg hij, World.cell?_setCell_other _ _ _ _ (fun e => hij (by cases e; rfl))]
        exact hcell4 i hi)
    rwa [hTLn] at this
  clear hcell4 hcj4 hfj4 hp4 hb4w hTL hTLn hxor hY256
  generalize (w4.setCell ⟨B, j, none⟩ (.int .u8 (Y : Nat))) = w5 at *
  go_wp2_with fail
  refine (HP.out _).mono ?_
  rintro e w6 ⟨rfl, hb6⟩
  have hb6w := (hb5w.trans (hb6.mono hb5w.size)).alloc (by have q1 := hb5w.size; have q2 := hb6.size; omega) zeroO
  have hme : ((m : Int) != 0) = true := by simp; omega
  clear hb6 hb5w hp5 HP hcv
  go_wp2_with fail
  refine (awake5_any _).mono ?_
  rintro e wA ⟨rfl, hbA⟩
  have hbAw := hb6w.trans (hbA.mono hb6w.size)
  clear hbA hb6w
  go_wp2
  go_ret
  exact ⟨rfl, hbAw⟩

set_option maxHeartbeats 4000000 in
theorem hbt_ok (x0 x1 : Int) (x2 x3 : Bool) (x4 x5 x6 x7 x8 : Int) (x10 : ByteArray) (o1 : Option Addr) (c1 : Nat) (l : List Opt) (at_ : Nat) (w : World) (h1 : OptRow w o1 l) (hl : l.length ≤ maxLen) (hld : ∀ o ∈ l, o.data.size ≤ maxLen) (hx : x10.size ≤ maxLen) (hg : H.great l x10.size = false) (h2 : ¬ 2000 < x10.size) (hat : at_ < 4294967296) (s : ByteArray) (n : Nat) (hn : s.size = n) (hn1 : 20 ≤ n) (hn2 : n ≤ 3000) (y0 y1 : Int) (y2 y3 : Bool) (y4 y5 y6 y7 y8 : Int) (y10 : ByteArray) (l2 : List Opt)
    (HE : Hid (∀ w', OptRow w' o1 l → Calls Tryd.prog 22 #[pk x0 x1 x2 x3 x4 x5 x6 x7 x8 (.slice o1 l.length c1) x10] w' fun e w'' => e = .returned (.tuple #[.string s, .int .i64 0]) ∧ Below w'.heap.size w' w''))
    (HP : Hid (∀ w', Calls Tryd.prog 17 #[.string (ba (H.turn s.data.toList (at_ % (8 * n) / 8) (at_ % (8 * n) % 8)))] w' fun e w'' => ∃ ao cp, e = .returned (.tuple #[pk y0 y1 y2 y3 y4 y5 y6 y7 y8 (.slice ao l2.length cp) y10, .int .i64 0]) ∧ OptRow w'' ao l2 ∧ Below w'.heap.size w' w''))
    (HSm : Hid (∀ ao cp w', OptRow w' o1 l → OptRow w' ao l2 → Calls Tryd.prog 19 #[pk x0 x1 x2 x3 x4 x5 x6 x7 x8 (.slice o1 l.length c1) x10, pk y0 y1 y2 y3 y4 y5 y6 y7 y8 (.slice ao l2.length cp) y10] w' fun e w'' => e = .returned (.bool false) ∧ Below w'.heap.size w' w'')) :
    Calls Tryd.prog 8 #[pk x0 x1 x2 x3 x4 x5 x6 x7 x8 (.slice o1 l.length c1) x10, .int .u32 (at_ : Nat)] w fun e w' => e = .returned (.bool true) ∧ Below w.heap.size w w' := by
  have hp0 : PkAt w.heap.size (pkO x0 x1 x2 x3 x4 x5 x6 x7 x8 (.slice o1 l.length c1) x10) o1 l (w.alloc (pkO x0 x1 x2 x3 x4 x5 x6 x7 x8 (.slice o1 l.length c1) x10)) := ⟨heap_alloc_new w _, h1.carry ((Below.refl _ w).alloc (Nat.le_refl _) _)⟩
  have hb0 : Below w.heap.size w (w.alloc (pkO x0 x1 x2 x3 x4 x5 x6 x7 x8 (.slice o1 l.length c1) x10)) := (Below.refl _ w).alloc (Nat.le_refl _) _
  have Hc : Hid (∀ w' : World, PkAt w.heap.size (pkO x0 x1 x2 x3 x4 x5 x6 x7 x8 (.slice o1 l.length c1) x10) o1 l w' → w'.cell? ⟨w.heap.size, 0, none⟩ = some (.int .i64 x0) ∧ w'.cell? ⟨w.heap.size, 1, none⟩ = some (.int .i64 x1) ∧ w'.cell? ⟨w.heap.size, 2, none⟩ = some (.bool x2) ∧ w'.cell? ⟨w.heap.size, 3, none⟩ = some (.bool x3) ∧ w'.cell? ⟨w.heap.size, 4, none⟩ = some (.int .i64 x4) ∧ w'.cell? ⟨w.heap.size, 5, none⟩ = some (.int .i64 x5) ∧ w'.cell? ⟨w.heap.size, 6, none⟩ = some (.int .i64 x6) ∧ w'.cell? ⟨w.heap.size, 7, none⟩ = some (.int .u32 x7) ∧ w'.cell? ⟨w.heap.size, 8, none⟩ = some (.int .u32 x8) ∧ w'.cell? ⟨w.heap.size, 9, none⟩ = some ((.slice o1 l.length c1)) ∧ w'.cell? ⟨w.heap.size, 10, none⟩ = some (.string x10)) :=
    Lib.hid fun w' hw' => by
      have q1 := hw'.blk
      simp [World.cell?, q1]
  have HG1 := Lib.hid (fun w' (h' : OptRow w' o1 l) => hgreat_any x0 x1 x2 x3 x4 x5 x6 x7 x8 x10 o1 c1 l w' h' hl hld hx)
  rw [hg] at HG1
  have HR1 := Lib.hid h1
  clear h1 hl hld hx
  have hne1 : ¬ s = (⟨#[]⟩ : ByteArray) := fun e => by rw [e] at hn; have h0 : (⟨#[]⟩ : ByteArray).size = 0 := rfl; omega
  have hne3 : s.toList.isEmpty = false := by
    rw [List.isEmpty_eq_false_iff, Lib.toList_data]
    intro e
    have := congrArg List.length e
    rw [Array.length_toList] at this
    exact absurd (show s.size = 0 from this) (by omega)
  have hK : at_ % (8 * n) < 8 * n := Nat.mod_lt _ (by omega)
  have hmod : (at_ : Int) % (8 * (n : Int)) = ((at_ % (8 * n) : Nat) : Int) := by rw [Int.natCast_emod]; simp
  have hmod2 : (at_ : Int).tmod (8 * (n : Int)) = ((at_ % (8 * n) : Nat) : Int) := by rw [Int.tmod_eq_emod_of_nonneg (by omega)]; exact hmod
  have hq0 : ¬ (8 * (n : Int)) = 0 := by omega
  have jw1 : IntKind.i64.wrap (8 * (n : Int)) = 8 * (n : Int) := IntWalk.i64_in _ (by omega)
  have jw2 : IntKind.u32.wrap (8 * (n : Int)) = 8 * (n : Int) := IntWalk.u32_in _ (by omega)
  generalize hKe : at_ % (8 * n) = K at *
  have jw3 : IntKind.i64.wrap (K : Int) = (K : Int) := IntWalk.i64_in _ (by omega)
  have jw4 : IntKind.u32.wrap (K : Int) = (K : Int) := IntWalk.u32_in _ (by omega)
  have hdv : (K : Int) / 8 = ((K / 8 : Nat) : Int) := by omega
  have hmd : (K : Int) % 8 = ((K % 8 : Nat) : Int) := by omega
  have hjn : K / 8 < n := by omega
  have hb8 : K % 8 < 8 := by omega
  have Hb7 := Lib.hid (fun w => run_bytes_of_string (P := Tryd.prog) w 9 45 5 s Tryd.underlying9 Tryd.underlying45 Tryd.underlying5)
  go_enter Tryd.func8, Tryd.ntmps8
  go_wp2_with fail
  refine (HG1.out _ hp0.row).mono ?_
  rintro e w1 ⟨rfl, hb1⟩
  have hp1 := hp0.carry hb1
  have hb1w := hb0.trans (hb1.mono hb0.size)
  obtain ⟨k0, k1, k2, k3, k4, k5, k6, k7, k8, k9, k10⟩ := Hc.out _ hp1
  clear hp0 hb0 hb1 HG1
  go_wp2_with fail
  refine (HE.out _ hp1.row).mono ?_
  rintro e w2 ⟨rfl, hb2⟩
  have hp2 := hp1.carry hb2
  have hb2w := hb1w.trans (hb2.mono hb1w.size)
  clear k0 k1 k2 k3 k4 k5 k6 k7 k8 k9 k10
  clear hb2 hb1w hp1 HE
  go_upto_region 7 with fail
  have hb7 := Hb7.out w2
  go_upto_region 8 with fail
  clear hb7 Hb7
  have hbs : n ≤ (bytesRow s (grownCap w2 n 0 5)).size := by unfold bytesRow; rw [Array.size_append, Array.size_map]; show n ≤ s.size + _; omega
  have hcell : ∀ i (hi : i < n), ((w2.alloc (.cells (bytesRow s (grownCap w2 n 0 5)) 5 ((bytesRow s (grownCap w2 n 0 5)).size, (bytesRow s (grownCap w2 n 0 5)).size + 1))).drew).cell? ⟨w2.heap.size, i, none⟩ = some (.int .u8 ((s.data[i]'(by rw [← hn] at hi; exact hi)).toNat : Int)) := fun i hi => (World.cell?_alloc_mark w2 _ _ _ i).trans (bytesRow_at s _ i (by rw [← hn] at hi; exact hi))
  have hfz : ∀ i, i < n → ((w2.alloc (.cells (bytesRow s (grownCap w2 n 0 5)) 5 ((bytesRow s (grownCap w2 n 0 5)).size, (bytesRow s (grownCap w2 n 0 5)).size + 1))).drew).frozen? ⟨w2.heap.size, i, none⟩ = false := fun i hi => (World.frozen?_alloc_mark w2 _ _ _ _ i).trans (by rw [decide_eq_false (by omega)]; rfl)
  have hb3w := (hb2w.alloc hb2w.size (.cells (bytesRow s (grownCap w2 n 0 5)) 5 ((bytesRow s (grownCap w2 n 0 5)).size, (bytesRow s (grownCap w2 n 0 5)).size + 1))).drew
  have hp3 := hp2.carry (((Below.refl _ w2).alloc (Nat.le_refl _) (.cells (bytesRow s (grownCap w2 n 0 5)) 5 ((bytesRow s (grownCap w2 n 0 5)).size, (bytesRow s (grownCap w2 n 0 5)).size + 1))).drew)
  have hNB : w.heap.size < w2.heap.size := lt_of_block hp2.blk
  have hsz3 : w2.heap.size < ((w2.alloc (.cells (bytesRow s (grownCap w2 n 0 5)) 5 ((bytesRow s (grownCap w2 n 0 5)).size, (bytesRow s (grownCap w2 n 0 5)).size + 1))).drew).heap.size := by simp
  generalize ((w2.alloc (.cells (bytesRow s (grownCap w2 n 0 5)) 5 ((bytesRow s (grownCap w2 n 0 5)).size, (bytesRow s (grownCap w2 n 0 5)).size + 1))).drew) = w3 at *
  generalize grownCap w2 n 0 5 = gc at *
  have hrlt : ∀ a off, o1 = some ⟨a, off, none⟩ → True := fun _ _ _ => trivial
  clear hb2w hbs hrlt
  generalize hBe : w2.heap.size = B at *
  have hj0 : K / 8 < s.data.size := by rw [← hn] at hjn; exact hjn
  obtain ⟨x, hxe⟩ : ∃ x : Nat, (s.data[K / 8]'hj0).toNat = x := ⟨_, rfl⟩
  have hx256 : x < 256 := by rw [← hxe]; exact UInt8.toNat_lt _
  have hcj : w3.cell? ⟨B, K / 8, none⟩ = some (.int .u8 (x : Nat)) := by rw [hcell _ hjn, hxe]
  have hfj := hfz _ hjn
  have hxor : bits .xor .u8 ((x : Nat) : Int) ((2 : Int) ^ (K % 8) % 256) = ((x ^^^ 2 ^ (K % 8) : Nat) : Int) := by
    have hp := pow_small (K % 8) hb8
    have e1 : (2 : Int) ^ (K % 8) % 256 = ((2 ^ (K % 8) : Nat) : Int) := by
      have e2 : (2 : Int) ^ (K % 8) = ((2 ^ (K % 8) : Nat) : Int) := by simp
      rw [e2]
      generalize 2 ^ (K % 8) = t at *
      omega
    rw [e1]
    exact u8_xor_nat x (2 ^ (K % 8)) hx256 (by omega)
  have hY256 : x ^^^ 2 ^ (K % 8) < 256 := (xor_nat x (K % 8) hx256 hb8).2
  have hTL : ∀ i (hi : i < n), ((H.turn s.data.toList (K / 8) (K % 8)).getD i 0).toNat = if i = K / 8 then x ^^^ 2 ^ (K % 8) else (s.data[i]'(by rw [← hn] at hi; exact hi)).toNat := fun i hi => by
    have hg : s.data.toList.getD (K / 8) 0 = s.data[K / 8]'hj0 := by rw [List.getD_eq_getElem?_getD, List.getElem?_eq_getElem (by rw [Array.length_toList]; exact hj0)]; simp
    rw [List.getD_eq_getElem?_getD]
    unfold H.turn
    rw [List.getElem?_set]
    by_cases hij : K / 8 = i
    · rw [if_pos hij, if_pos (by rw [Array.length_toList]; exact hj0), if_pos hij.symm, hg, hxe, Option.getD_some]
      exact H.of256 _ hY256
    · rw [if_neg hij, if_neg (Ne.symm hij), List.getElem?_eq_getElem (by rw [Array.length_toList]; rw [← hn] at hi; exact hi), Option.getD_some]
      simp
  have hTLn : (H.turn s.data.toList (K / 8) (K % 8)).length = n := by rw [H.turn_length, Array.length_toList]; exact hn
  generalize H.turn s.data.toList (K / 8) (K % 8) = TL at *
  generalize x ^^^ 2 ^ (K % 8) = Y at *
  have jx1 : (0 : Int) ≤ ((K / 8 : Nat) : Int) := by omega
  have jx2 : ((K / 8 : Nat) : Int) < (n : Int) := by omega
  generalize hje : K / 8 = j at *
  generalize hbe : K % 8 = bb at *
  refine region_quiet_tail 13 (by kernel_rfl) (by kernel_rfl) ?_
  simp only [List.take_succ_cons, List.take_zero, List.drop_succ_cons, List.drop_zero]
  repeat (go_big_quiet_step (fail))
  refine wpQuiet_nil ?_
  rintro _ ⟨nr, rfl⟩
  have hcell4 : ∀ i (hi : i < n), (w3.drewN nr).cell? ⟨B, i, none⟩ = some (.int .u8 ((s.data[i]'(by rw [← hn] at hi; exact hi)).toNat : Int)) := hcell
  have hcj4 : (w3.drewN nr).cell? ⟨B, j, none⟩ = some (.int .u8 (x : Nat)) := hcj
  have hfj4 : (w3.drewN nr).frozen? ⟨B, j, none⟩ = false := hfj
  have hb4w : Below w.heap.size w (w3.drewN nr) := belowN hb3w nr
  have hp4 := hp3.carry (belowN (Below.refl w3.heap.size w3) nr)
  generalize w3.drewN nr = w4 at *
  clear hcell hfz hcj hfj hb3w hp3 hsz3
  go_upto_region 9 with fail
  have hNB' : w.heap.size ≤ B := by omega
  have hb5w : Below w.heap.size w (w4.setCell ⟨B, j, none⟩ (.int .u8 (Y : Nat))) := hb4w.setCell hNB' _
  have hp5 : PkAt w.heap.size (pkO x0 x1 x2 x3 x4 x5 x6 x7 x8 (.slice o1 l.length c1) x10) o1 l (w4.setCell ⟨B, j, none⟩ (.int .u8 (Y : Nat))) := ⟨(Below.heap_setCell _ _ _ _ (by simp only; omega)).trans hp4.blk, HR1.out.carry hb5w⟩
  have hcv : (convert 45 9 (.slice (some ⟨B, 0, none⟩) n gc)).run Tryd.prog (w4.setCell ⟨B, j, none⟩ (.int .u8 (Y : Nat))) = .ok (.string ⟨TL.toArray⟩) (w4.setCell ⟨B, j, none⟩ (.int .u8 (Y : Nat))) := by
    have := run_convert_bytes_back (P := Tryd.prog) (w4.setCell ⟨B, j, none⟩ (.int .u8 (Y : Nat))) 45 9 5 ⟨B, 0, none⟩ gc TL Tryd.underlying45 Tryd.underlying5 Tryd.underlying9 (fun i hi => by
      have hgd : TL[i] = TL.getD i 0 := by rw [List.getD_eq_getElem?_getD, List.getElem?_eq_getElem hi]; rfl
      rw [hTLn] at hi
      rw [Addr.add_lit, Nat.zero_add, hgd, hTL i hi]
      by_cases hij : i = j
      · subst hij
        rw [if_pos rfl]
        exact World.cell?_setCell_same _ _ _ hcj4
      · rw [if_neg hij, World.cell?_setCell_other _ _ _ _ (fun e => hij (by cases e; rfl))]
        exact hcell4 i hi)
    rwa [hTLn] at this
  clear hcell4 hcj4 hfj4 hp4 hb4w hTL hTLn hxor hY256
  generalize (w4.setCell ⟨B, j, none⟩ (.int .u8 (Y : Nat))) = w5 at *
  go_wp2_with fail
  refine (HP.out _).mono ?_
  rintro e w6 ⟨ao, cp, rfl, hrow, hb6⟩
  have hp6 := (hp5.carry hb6)
  obtain ⟨k0, k1, k2, k3, k4, k5, k6, k7, k8, k9, k10⟩ := Hc.out _ hp6
  have hlt6 := lt_of_block hp6.blk
  have hp7 := hp6.carry ((Below.refl _ w6).alloc (Nat.le_refl _) (pkO y0 y1 y2 y3 y4 y5 y6 y7 y8 (.slice ao l2.length cp) y10))
  have hrow7 := hrow.carry ((Below.refl _ w6).alloc (Nat.le_refl _) (pkO y0 y1 y2 y3 y4 y5 y6 y7 y8 (.slice ao l2.length cp) y10))
  have hb6w := (hb5w.trans (hb6.mono hb5w.size)).alloc (by have q1 := hb5w.size; have q2 := hb6.size; omega) (pkO y0 y1 y2 y3 y4 y5 y6 y7 y8 (.slice ao l2.length cp) y10)
  clear hb6 hb5w hp5 HP hcv hp6 hrow
  go_wp2_with fail
  refine (HSm.out ao cp _ hp7.row hrow7).mono ?_
  rintro e w7 ⟨rfl, hb7⟩
  have hb7w := hb6w.trans (hb7.mono hb6w.size)
  clear k0 k1 k2 k3 k4 k5 k6 k7 k8 k9 k10
  clear hb7 hb6w hp7 hrow7 HSm
  go_wp2_with fail
  refine (awake5_any _).mono ?_
  rintro e wA ⟨rfl, hbA⟩
  have hbAw := hb7w.trans (hbA.mono hb7w.size)
  clear hbA hb7w
  go_wp2
  go_ret
  exact ⟨rfl, hbAw⟩

#print axioms hbt_ok
end Go.Proofs.YtncnildpbccpaaaDoor

namespace Go.Proofs.YtncnildpbccpaaaDoor
open Go.RowKit

theorem hbt_all (x0 x1 : Int) (x2 x3 : Bool) (x4 x5 x6 x7 x8 : Int) (x10 : ByteArray) (o1 : Option Addr) (c1 : Nat) (l : List Opt) (az : Int) (w : World) (h1 : OptRow w o1 l) (hl : l.length ≤ maxLen) (hld : ∀ o ∈ l, o.data.size ≤ maxLen) (hx : x10.size ≤ maxLen) (hs : 0 ≤ x7 ∧ x7 < 4294967296) (ht : 0 ≤ x8 ∧ x8 < 4294967296) (haz : 0 ≤ az ∧ az < 4294967296) :
    Calls Tryd.prog 8 #[pk x0 x1 x2 x3 x4 x5 x6 x7 x8 (.slice o1 l.length c1) x10, .int .u32 az] w fun e w' => e = .returned (.bool true) ∧ Below w.heap.size w w' := by
  obtain ⟨at_, rfl⟩ := Int.eq_ofNat_of_zero_le haz.1
  cases hg : H.great l x10.size with
  | true => exact hbt_great x0 x1 x2 x3 x4 x5 x6 x7 x8 x10 o1 c1 l at_ w h1 hl hld hx hg
  | false =>
    by_cases h2 : 2000 < x10.size
    · exact hbt_long x0 x1 x2 x3 x4 x5 x6 x7 x8 x10 o1 c1 l at_ w h1 hl hld hx hg h2
    · cases hr : H.right x0 x1 x4 x5 x6 l x10.size with
      | false => exact hbt_no x0 x1 x2 x3 x4 x5 x6 x7 x8 x10 o1 c1 l at_ w h1 hl hld hx hg h2 hr
      | true =>
        obtain ⟨p0, p1, p4, p5, p6⟩ := H.right_int _ _ _ _ _ _ _ hr
        obtain ⟨n0, rfl⟩ := Int.eq_ofNat_of_zero_le p0
        obtain ⟨n1, rfl⟩ := Int.eq_ofNat_of_zero_le p1
        obtain ⟨n4, rfl⟩ := Int.eq_ofNat_of_zero_le p4
        obtain ⟨n5, rfl⟩ := Int.eq_ofNat_of_zero_le p5
        obtain ⟨n6, rfl⟩ := Int.eq_ofNat_of_zero_le p6
        obtain ⟨n7, rfl⟩ := Int.eq_ofNat_of_zero_le hs.1
        obtain ⟨n8, rfl⟩ := Int.eq_ofNat_of_zero_le ht.1
        obtain ⟨g1, g2, g3⟩ := H.great_no _ _ hg
        have hn := H.right_nat n0 n1 n4 n5 n6 l x10.size (by omega) hr
        obtain ⟨e1, e2, _⟩ := H.enc_ok n0 n1 x2 x3 n4 n5 n6 n7 n8 l x10 hn (by omega) (by omega)
        have HE := Lib.hid fun w' h' => henc_ok n0 n1 x2 x3 n4 n5 n6 n7 n8 o1 c1 l x10 w' h' g1 g2 (by omega) (by omega) (by omega) hr
        have hz : (H.enc n0 n1 x2 x3 n4 n5 n6 n7 n8 l x10).size ≤ 3000 := by
          have h := congrArg List.length (H.enc_lst n0 n1 x2 x3 n4 n5 n6 n7 n8 l x10)
          rw [H.lst_length, Array.length_toList, List.length_append, O.enc_length, Array.length_toList] at h
          have h' : (H.enc n0 n1 x2 x3 n4 n5 n6 n7 n8 l x10).size = 20 + (O.size l + x10.size) := h
          have := hn.hsize
          omega
        have hz2 : 20 ≤ (H.enc n0 n1 x2 x3 n4 n5 n6 n7 n8 l x10).size := by have := e1.len; rwa [Array.length_toList] at this
        generalize H.enc n0 n1 x2 x3 n4 n5 n6 n7 n8 l x10 = s at *
        have hsl : s.data.toList.length = s.size := by rw [Array.length_toList]; rfl
        have hK : at_ % (8 * s.size) < 8 * s.size := Nat.mod_lt _ (by omega)
        have hTl := H.turn_length s.data.toList (at_ % (8 * s.size) / 8) (at_ % (8 * s.size) % 8)
        cases hp : H.parse (H.turn s.data.toList (at_ % (8 * s.size) / 8) (at_ % (8 * s.size) % 8)) with
        | error m =>
          refine hbt_err _ _ _ _ _ _ _ _ _ _ o1 c1 l at_ w h1 hl hld hx hg h2 (by omega) s s.size rfl hz2 hz m (H.parse_err_ge _ _ hp).1 HE (Lib.hid fun w' => ?_)
          have hq := hparse (H.turn s.data.toList (at_ % (8 * s.size) / 8) (at_ % (8 * s.size) % 8)) w' (by omega)
          rw [hp] at hq
          exact hq
        | ok k =>
          obtain ⟨l2, hk, hok⟩ := H.parse_inv _ _ hp
          have hl2 : l2.length ≤ maxLen := by
            have := O.parse_len _ _ hok.opts
            unfold maxLen
            omega
          have hno : ¬ k = ⟨n0, n1, x2, x3, n4, n5, n6, n7, n8, l, x10⟩ := fun he =>
            H.bent s.data.toList (at_ % (8 * s.size) / 8) (at_ % (8 * s.size) % 8) (by omega) (by omega) l l2 e1 hok (by rw [e2, ← hk, he])
          have hkl : k.opts = l2 := by rw [hk]; rfl
          clear hk hok
          obtain ⟨y0, y1, y2, y3, y4, y5, y6, y7, y8, l3, y10⟩ := k
          cases hkl
          refine hbt_ok _ _ _ _ _ _ _ _ _ _ o1 c1 l at_ w h1 hl hld hx hg h2 (by omega) s s.size rfl hz2 hz y0 y1 y2 y3 y4 y5 y6 y7 y8 y10 l3 HE (Lib.hid fun w' => ?_) (Lib.hid fun ao cp w' r1 r2 => ?_)
          · have hq := hparse (H.turn s.data.toList (at_ % (8 * s.size) / 8) (at_ % (8 * s.size) % 8)) w' (by omega)
            rw [hp] at hq
            exact hq
          · by_cases ha : ((n0 : Int) = y0 ∧ (n1 : Int) = y1 ∧ x2 = y2 ∧ x3 = y3 ∧ (n4 : Int) = y4 ∧ (n5 : Int) = y5 ∧ (n6 : Int) = y6 ∧ (n7 : Int) = y7 ∧ (n8 : Int) = y8 ∧ x10 = y10)
            · obtain ⟨q0, q1, q2, q3, q4, q5, q6, q7, q8, q10⟩ := ha
              have q7' : n7 = y7 := by omega
              have q8' : n8 = y8 := by omega
              subst q0 q1 q2 q3 q4 q5 q6 q7' q8' q10
              have hsb : sameB l l3 = false := by
                unfold sameB
                exact decide_eq_false fun he => hno (by rw [he])
              have := same5_yes n0 n1 x2 x3 n4 n5 n6 n7 n8 x10 o1 ao c1 cp l l3 w' r1 r2 hl hl2
              rw [hsb] at this
              exact this
            · exact ref5_no _ _ _ _ _ _ _ _ _ _ _ _ _ _ _ _ _ _ _ _ o1 ao c1 cp l l3 w' ha
#print axioms hbt_all
end Go.Proofs.YtncnildpbccpaaaDoor

