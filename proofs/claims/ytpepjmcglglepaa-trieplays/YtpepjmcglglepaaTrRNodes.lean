/- The document's answer: how many unlike beginnings prefixes have. -/
import Derived.Test.YtpepjmcglglepaaTrRef
namespace Go.Proofs.Ytpepjmcglglepaa
open Go.RowKit
set_option maxRecDepth 100000
set_option linter.unusedVariables false
open R

namespace R
/-- What has been gone through: the first i prefixes, and of the next one what has less than b bits. -/
structure Part (l : List Rt) (i b : Nat) (D : List (Nat × Nat)) : Prop where
  nodup : D.Nodup
  mem : ∀ p, p ∈ D ↔ (p.1 = 0 ∧ p.2 = 0) ∨ (∃ j, j < i ∧ p.1 ≤ (l.getD j zR).b.toNat ∧ hi (l.getD j zR).a p.1 = p.2) ∨ (p.1 < b ∧ hi (l.getD i zR).a p.1 = p.2)
def Seen' (l : List Rt) (i b k : Nat) : Prop := ∃ j, j < k ∧ (b : Int) ≤ (l.getD j zR).b ∧ hi (l.getD j zR).a b = hi (l.getD i zR).a b
theorem Part.zero (l : List Rt) : Part l 0 0 [(0, 0)] := ⟨by simp, fun p => by
  rw [List.mem_singleton]
  constructor
  · rintro rfl; exact .inl ⟨rfl, rfl⟩
  · rintro (⟨h1, h2⟩ | ⟨j, hj, _⟩ | ⟨h, _⟩)
    · exact Prod.ext h1 h2
    · omega
    · omega⟩
/-- At a prefix's beginning: that of no bits is there already. -/
theorem Part.open' {l : List Rt} {i : Nat} {D : List (Nat × Nat)} (h : Part l i 0 D) (ha : (l.getD i zR).a < 4294967296) : Part l i 1 D := ⟨h.nodup, fun p => by
  rw [h.mem p]
  constructor
  · rintro (h1 | h1 | h1)
    · exact .inl h1
    · exact .inr (.inl h1)
    · omega
  · rintro (h1 | h1 | ⟨h1, h2⟩)
    · exact .inl h1
    · exact .inr (.inl h1)
    · have e : p.1 = 0 := by omega
      rw [e, hi_zero _ ha] at h2
      exact .inl ⟨e, h2.symm⟩⟩
theorem Part.seen {l : List Rt} {i b : Nat} {D : List (Nat × Nat)} (h : Part l i b D) (hb : 1 ≤ b) (hs : Seen' l i b i) : Part l i (b + 1) D := ⟨h.nodup, fun p => by
  rw [h.mem p]
  constructor
  · rintro (h1 | h1 | ⟨h1, h2⟩)
    · exact .inl h1
    · exact .inr (.inl h1)
    · exact .inr (.inr ⟨by omega, h2⟩)
  · rintro (h1 | h1 | ⟨h1, h2⟩)
    · exact .inl h1
    · exact .inr (.inl h1)
    · by_cases e : p.1 = b
      · obtain ⟨j, hj, h3, h4⟩ := hs
        refine .inr (.inl ⟨j, hj, by omega, ?_⟩)
        rw [e, h4, ← e]; exact h2
      · exact .inr (.inr ⟨by omega, h2⟩)⟩
theorem Part.new {l : List Rt} {i b : Nat} {D : List (Nat × Nat)} (h : Part l i b D) (hb : 1 ≤ b) (hs : ¬ Seen' l i b i) : Part l i (b + 1) (D ++ [(b, hi (l.getD i zR).a b)]) := by
  refine ⟨?_, fun p => ?_⟩
  · rw [List.nodup_append]
    refine ⟨h.nodup, by simp, fun x hx y hy e => ?_⟩
    obtain rfl := List.mem_singleton.1 hy
    subst e
    rcases (h.mem _).1 hx with ⟨h1, _⟩ | ⟨j, hj, h1, h2⟩ | ⟨h1, _⟩
    · dsimp only at h1; omega
    · dsimp only at h1 h2
      exact hs ⟨j, hj, by omega, h2⟩
    · dsimp only at h1; omega
  · rw [List.mem_append, h.mem p, List.mem_singleton]
    constructor
    · rintro ((h1 | h1 | ⟨h1, h2⟩) | rfl)
      · exact .inl h1
      · exact .inr (.inl h1)
      · exact .inr (.inr ⟨by omega, h2⟩)
      · exact .inr (.inr ⟨by dsimp only; omega, rfl⟩)
    · rintro (h1 | h1 | ⟨h1, h2⟩)
      · exact .inl (.inl h1)
      · exact .inl (.inr (.inl h1))
      · by_cases e : p.1 = b
        · exact .inr (Prod.ext e (by rw [← h2, e]))
        · exact .inl (.inr (.inr ⟨by omega, h2⟩))
theorem Part.next {l : List Rt} {i b : Nat} {D : List (Nat × Nat)} (h : Part l i b D) (hb : b = (l.getD i zR).b.toNat + 1) : Part l (i + 1) 0 D := ⟨h.nodup, fun p => by
  rw [h.mem p]
  constructor
  · rintro (h1 | ⟨j, hj, h1⟩ | ⟨h1, h2⟩)
    · exact .inl h1
    · exact .inr (.inl ⟨j, by omega, h1⟩)
    · exact .inr (.inl ⟨i, by omega, by omega, h2⟩)
  · rintro (h1 | ⟨j, hj, h1, h2⟩ | ⟨h1, _⟩)
    · exact .inl h1
    · by_cases e : j = i
      · subst e; exact .inr (.inr ⟨by omega, h2⟩)
      · exact .inr (.inl ⟨j, by omega, h1, h2⟩)
    · omega⟩
theorem Part.all {l : List Rt} {D : List (Nat × Nat)} (h : Part l l.length 0 D) : Doms l D := ⟨h.nodup, fun p => by
  rw [h.mem p]
  constructor
  · rintro (⟨h1, h2⟩ | ⟨j, hj, h1⟩ | ⟨h1, _⟩)
    · exact .inr ⟨by omega, by rw [h1, h2, hi_zero _ (by decide)]⟩
    · exact .inl ⟨_, getD_mem l j hj, h1⟩
    · omega
  · rintro (⟨r, hr, h1⟩ | ⟨h1, h2⟩)
    · obtain ⟨j, hj, e⟩ := List.getElem_of_mem hr
      refine .inr (.inl ⟨j, hj, ?_⟩)
      rw [List.getD_eq_getElem?_getD, List.getElem?_eq_getElem hj]
      show p.1 ≤ l[j].b.toNat ∧ hi l[j].a p.1 = p.2
      rw [e]; exact h1
    · have e : p.1 = 0 := by omega
      rw [e, hi_zero _ (by decide)] at h2
      exact .inl ⟨e, h2.symm⟩⟩
theorem Seen'.zero (l : List Rt) (i b : Nat) : ¬ Seen' l i b 0 := fun ⟨j, hj, _⟩ => by omega
theorem Seen'.step (l : List Rt) (i b k : Nat) : Seen' l i b (k + 1) ↔ Seen' l i b k ∨ ((b : Int) ≤ (l.getD k zR).b ∧ hi (l.getD k zR).a b = hi (l.getD i zR).a b) := by
  constructor
  · rintro ⟨j, hj, h⟩
    by_cases e : j = k
    · subst e; exact .inr h
    · exact .inl ⟨j, by omega, h⟩
  · rintro (⟨j, hj, h⟩ | h)
    · exact ⟨j, by omega, h⟩
    · exact ⟨k, by omega, h⟩
theorem xor_hi (x y s : Nat) : (x ^^^ y) / 2 ^ s = 0 ↔ x / 2 ^ s = y / 2 ^ s := by
  rw [← Nat.shiftRight_eq_div_pow, ← Nat.shiftRight_eq_div_pow, ← Nat.shiftRight_eq_div_pow, Nat.shiftRight_xor_distrib]
  constructor
  · intro h
    have h2 : (x >>> s ^^^ y >>> s) ^^^ y >>> s = 0 ^^^ y >>> s := by rw [h]
    rwa [Nat.xor_assoc, Nat.xor_self, Nat.xor_zero, Nat.zero_xor] at h2
  · intro h; rw [h, Nat.xor_self]
theorem xor_lt (x y : Nat) (hx : x < 4294967296) (hy : y < 4294967296) : x ^^^ y < 4294967296 := Nat.xor_lt_two_pow (n := 32) hx hy
end R
theorem xor_seen {x y b : Nat} {rb : Int} {P P' : Prop} (hge : (b : Int) ≤ rb) (h : P' ↔ P ∨ ((b : Int) ≤ rb ∧ R.hi x b = R.hi y b)) (hp : ¬ P) : (((x ^^^ y : Nat) : Int) / 2 ^ (32 - b) == 0) = true ↔ P' := by
  have e : ((x ^^^ y : Nat) : Int) / 2 ^ (32 - b) = (((x ^^^ y) / 2 ^ (32 - b) : Nat) : Int) := by
    rw [Int.natCast_ediv, Int.natCast_pow]; rfl
  have hx := R.xor_hi x y (32 - b)
  rw [h, beq_iff_eq, e]
  constructor
  · intro h0
    exact .inr ⟨hge, hx.1 (by omega)⟩
  · rintro (h0 | ⟨_, h0⟩)
    · exact absurd h0 hp
    · have := hx.2 h0; omega
theorem u32_bitnat (a : Nat) (ha : a < 4294967296) : (BitVec.ofInt 32 (a : Int)).toNat = a := by
  have e : (((2 : Nat) ^ 32 : Nat) : Int) = 4294967296 := by decide
  rw [BitVec.toNat_ofInt, e]
  omega
theorem u32_xor (a b : Nat) (ha : a < 4294967296) (hb : b < 4294967296) : bits .xor .u32 (a : Int) (b : Int) = ((a ^^^ b : Nat) : Int) := by
  show IntKind.u32.wrap ((BitVec.ofInt 32 (a : Int) ^^^ BitVec.ofInt 32 (b : Int)).toNat : Int) = _
  have hlt := R.xor_lt a b ha hb
  rw [BitVec.toNat_xor, u32_bitnat a ha, u32_bitnat b hb]
  exact IntWalk.u32_in _ (by omega)

set_option maxHeartbeats 8000000 in
theorem RNodes_any (ao : Option Addr) (cap : Nat) (l : List Rt) (w : World) (hrow : RtRow w ao l) (hl : l.length ≤ 1000) (hok : ∀ r ∈ l, r.a < 4294967296 ∧ 0 ≤ r.b ∧ r.b ≤ 32) :
    Calls Try.prog 17 #[.slice ao l.length cap] w fun e w' => ∃ D : List (Nat × Nat), Doms l D ∧ e = .returned (.int .i64 D.length) ∧ Below w.heap.size w w' := by
  have HRow := Lib.hid hrow
  have HOk := Lib.hid hok
  clear hrow hok
  go_enter Try.func17, Try.ntmps17
  go_wp2
  go_loopw [3, 4] (fun n i wr => ∃ (k : Nat) (D : List (Nat × Nat)), k ≤ l.length ∧ i = .int .i64 k ∧ n = .int .i64 D.length ∧ Hid (Part l k 0 D) ∧ D.length ≤ 33 * k + 1 ∧ Below w.heap.size w wr) (fun _ i _ => l.length - (intOf i).toNat)
  case atStart => exact ⟨0, [(0, 0)], Nat.zero_le _, rfl, rfl, Lib.hid (Part.zero l), by simp, Below.refl _ _⟩
  case round =>
    obtain ⟨i, D, hil, rfl, rfl, HP, hD, hb⟩ := hrel
    by_cases hi1 : i < l.length
    · obtain ⟨g, off, rfl, hcs⟩ := HRow.out.at2 i hi1
      have hik : (i : Int) < (l.length : Int) := by omega
      have hri := HOk.out _ (getD_mem l i hi1)
      have HP1 := Lib.hid (HP.out.open' hri.1)
      clear HP
      have HB := Lib.hid (show ∃ B : Nat, (l.getD i zR).b = B ∧ B ≤ 32 from ⟨(l.getD i zR).b.toNat, by omega, by omega⟩)
      obtain ⟨B, eB, hB⟩ := HB.out
      clear HB
      have HCI := Lib.hid (fun wr hb => (hcs wr hb))
      have HA := Lib.hid hri.1
      have HEB := Lib.hid eB
      clear hcs hri
      go_wp2
      generalize wr = wo at *
      have HBO := Lib.hid hb
      clear hb
      go_loopw [3, 5] (fun n bb wr => ∃ (b : Nat) (D : List (Nat × Nat)), 1 ≤ b ∧ b ≤ B + 1 ∧ bb = .int .i64 b ∧ n = .int .i64 D.length ∧ Hid (Part l i b D) ∧ D.length + 1 ≤ 33 * i + 1 + b ∧ Below w.heap.size w wr) (fun _ i _ => B + 1 - (intOf i).toNat)
      case atStart => exact ⟨1, D, Nat.le_refl _, by omega, rfl, rfl, HP1, by omega, HBO.out⟩
      case round =>
        clear HP1 hD
        obtain ⟨b, D2, hb1, hbB, rfl, rfl, HP, hD, hb⟩ := hrel
        obtain ⟨c0, c1, c2⟩ := HCI.out wr hb
        rw [eB] at c1
        by_cases hbl : b ≤ B
        · have hbl2 : (b : Int) ≤ (B : Int) := by omega
          clear c0 c2 eB
          go_wp2
          generalize wr = wm at *
          have HBM := Lib.hid hb
          clear hb c1
          go_loopw [6, 7] (fun s k wr => ∃ (m : Nat) (sv : Bool), m ≤ i ∧ k = .int .i64 m ∧ s = .bool sv ∧ Hid (sv = true ↔ Seen' l i b m) ∧ Below w.heap.size w wr) (fun _ k _ => i - (intOf k).toNat)
          case atStart => exact ⟨0, false, Nat.zero_le _, rfl, rfl, Lib.hid ⟨fun h => by (cases h), fun h => absurd h (Seen'.zero l i b)⟩, HBM.out⟩
          case round =>
            obtain ⟨m, sv, hmi, rfl, rfl, HS, hb⟩ := hrel
            by_cases hm : m < i
            · have hmi2 : (m : Int) < (i : Int) := by omega
              cases sv
              case true =>
                have HN : Hid (Seen' l i b (m + 1)) := Lib.hid ((Seen'.step l i b m).2 (.inl (HS.out.1 rfl)))
                clear HS
                go_wp2
                go_quiet (fail)
                go_wp2
                go_roundw
                case rel => exact ⟨m + 1, true, by omega, by go_num, rfl, Lib.hid ⟨fun _ => HN.out, fun _ => rfl⟩, below_drewN hb _⟩
                case measure => simp [intOf]; omega
              case false =>
                obtain ⟨g2, off2, e2, hcm⟩ := HRow.out.at2 m (by omega)
                cases e2
                obtain ⟨c0, c1, c2⟩ := HCI.out wr hb
                obtain ⟨d0, d1, d2⟩ := hcm wr hb
                clear hcm c1 c2 d2
                have HST := Lib.hid (Seen'.step l i b m)
                have Hm := HOk.out _ (getD_mem l m (by omega))
                have Hi := HA.out
                have hml : m < l.length := by omega
                generalize l.getD m zR = r2 at *
                generalize hr1 : (l.getD i zR) = r1 at *
                by_cases hge : (b : Int) ≤ r2.b
                · have HX := u32_xor r2.a r1.a Hm.1 Hi
                  have HN : Hid ((((r2.a ^^^ r1.a : Nat) : Int) / 2 ^ (32 - b) == 0) = true ↔ Seen' l i b (m + 1)) := Lib.hid (xor_seen hge HST.out (fun h => by cases HS.out.2 h))
                  clear HS HST
                  have g1 := decide_eq_true hge
                  have hb32 : (0 : Int) ≤ 32 - (b : Int) := by omega
                  go_wp2
                  go_quiet (fail)
                  go_wp2
                  go_roundw
                  case rel => exact ⟨m + 1, _, by omega, by go_num, rfl, HN, below_drewN hb _⟩
                  case measure => simp [intOf]; omega
                · have HN : Hid (¬ Seen' l i b (m + 1)) := Lib.hid fun h => by
                    rcases HST.out.1 h with h | ⟨h, _⟩
                    · cases HS.out.2 h
                    · exact absurd h hge
                  clear HS HST c0 d0 Hm Hi
                  have g1 := decide_eq_false hge
                  go_wp2
                  go_quiet (fail)
                  go_wp2
                  go_roundw
                  case rel => exact ⟨m + 1, false, by omega, by go_num, rfl, Lib.hid ⟨fun h => by (cases h), fun h => absurd h HN.out⟩, below_drewN hb _⟩
                  case measure => simp [intOf]; omega
            · obtain rfl : m = i := by omega
              have hmi2 : ¬ (m : Int) < (m : Int) := by omega
              have hr1 : B = (l.getD m zR).b.toNat := by have := HEB.out; omega
              cases sv
              case true =>
                have HQ := Lib.hid (HP.out.seen hb1 (HS.out.1 rfl))
                clear HS HP
                go_wp2
                go_roundw
                case rel => exact ⟨b + 1, D2, by omega, by omega, by go_num, rfl, HQ, by omega, hb⟩
                case measure => simp [intOf]; omega
              case false =>
                have HQ := Lib.hid (HP.out.new hb1 (fun h => by cases HS.out.2 h))
                clear HS HP
                go_wp2
                go_roundw
                case rel => exact ⟨b + 1, D2 ++ [(b, hi (l.getD m zR).a b)], by omega, by omega, by go_num, by rw [List.length_append, List.length_singleton]; first | rfl | (simp; done) | go_num, HQ, by simp only [List.length_append, List.length_singleton]; omega, hb⟩
                case measure => simp [intOf]; omega
        · have e : b = B + 1 := by omega
          have hbl2 : ¬ (b : Int) ≤ (B : Int) := by omega
          have HQ := Lib.hid (HP.out.next (by have := HEB.out; omega))
          clear c0 c2
          go_wp2
          go_roundw
          case rel => exact ⟨i + 1, D2, by omega, by go_num, rfl, HQ, by omega, hb⟩
          case measure => simp [intOf]; omega
    · obtain rfl : i = l.length := by omega
      have hik : ¬ (l.length : Int) < (l.length : Int) := by omega
      go_wp2
      go_ret
      exact ⟨D, HP.out.all, rfl, hb⟩
end Go.Proofs.Ytpepjmcglglepaa
