/- What tells one number after the other: a closure over the pairs and a map of them. -/
import Derived.Test.YtdipoaekdafbeaaDoRight2
namespace Go.Proofs.Ytdipoaekdafbeaa
open Go.RowKit Go.Maps
set_option maxRecDepth 100000
set_option linter.unusedVariables false
open D

/-- A teller's two variables: the pairs, and their map. -/
structure TellAt (w : World) (p1 p2 : Nat) (a : Option Addr) (cap : Nat) (l : Pairs) (b : Bool) (g n : Nat) : Prop where
  c1 : w.cell? ⟨p1, 0, none⟩ = some (.slice a l.length cap)
  l1 : p1 < w.heap.size
  c2 : w.cell? ⟨p2, 0, none⟩ = some (.map (some g))
  l2 : p2 < w.heap.size
  mp : w.ownsMap Try.prog 3 (plainElem Try.prog 3) g n (metD b l)
theorem TellAt.below {w w' : World} {p1 p2 : Nat} {a : Option Addr} {cap : Nat} {l : Pairs} {b : Bool} {g n : Nat} (h : TellAt w p1 p2 a cap l b g n) (hb : Below w.heap.size w w') : TellAt w' p1 p2 a cap l b g n :=
  ⟨(hb.cell (p := ⟨p1, 0, none⟩) h.l1).trans h.c1, Nat.lt_of_lt_of_le h.l1 hb.size, (hb.cell (p := ⟨p2, 0, none⟩) h.l2).trans h.c2, Nat.lt_of_lt_of_le h.l2 hb.size, ownsMap_below h.mp hb h.mp.lt⟩
def tellV (p1 p2 : Nat) : Value := .func (.func 58) #[] #[.pointer (some ⟨p1, 0, none⟩), .pointer (some ⟨p2, 0, none⟩)]
/-- A teller as a value. -/
def IsTell (a : Option Addr) (cap : Nat) (l : Pairs) (b : Bool) (v : Value) (w : World) : Prop := ∃ p1 p2 g n, v = tellV p1 p2 ∧ TellAt w p1 p2 a cap l b g n
theorem IsTell.below {a : Option Addr} {cap : Nat} {l : Pairs} {b : Bool} {v : Value} {w w' : World} (h : IsTell a cap l b v w) (hb : Below w.heap.size w w') : IsTell a cap l b v w' := by
  obtain ⟨p1, p2, g, n, rfl, h⟩ := h
  exact ⟨p1, p2, g, n, rfl, h.below hb⟩

set_option maxHeartbeats 2000000 in
theorem teller_any (b : Bool) (a : Option Addr) (cap : Nat) (l : Pairs) (w : World) (h : PRow w a l) (hl : l.length ≤ 1000) (hw : PWf l) :
    Calls Try.prog 53 #[.slice a l.length cap, lookV b] w fun e w' => ∃ v, e = .returned v ∧ IsTell a cap l b v w' ∧ Below w.heap.size w w' := by
  have hb : Below w.heap.size w (w.alloc (.cells #[.slice a l.length cap] 23)) := (Below.refl _ w).alloc (Nat.le_refl _) _
  have HM := Lib.hid (met_any b a cap l (w.alloc (.cells #[.slice a l.length cap] 23)) (h.below hb) hl hw)
  generalize lookV b = f at *
  clear h
  go_enter Try.func53, Try.ntmps53
  go_wp2_with fail
  refine HM.out.mono ?_
  rintro e w2 ⟨g, rfl, hown, hge, hb2⟩
  have hbw := hb.trans (hb2.mono hb.size)
  have k0 : w2.cell? ⟨w.heap.size, 0, none⟩ = some (.slice a l.length cap) := (hb2.cell (p := ⟨w.heap.size, 0, none⟩) (by simp)).trans (by simp)
  have hs2 := hb2.size
  have hg := hown.lt
  have hbw3 := hbw.alloc hbw.size (.cells #[.map (some g)] 91)
  have HT : Hid (TellAt (w2.alloc (.cells #[.map (some g)] 91)) w.heap.size w2.heap.size a cap l b g l.length) := Lib.hid
    ⟨(Below.cell ((Below.refl w2.heap.size w2).alloc (Nat.le_refl _) _) (p := ⟨w.heap.size, 0, none⟩) (by simp at hs2; show w.heap.size < _; omega)).trans k0, by simp at hs2; simp; omega, by simp, by simp, hown.alloc _⟩
  clear hown hb2 k0
  go_wp2
  go_ret
  exact ⟨_, rfl, ⟨_, _, g, _, rfl, HT.out⟩, hbw3⟩

set_option maxHeartbeats 2000000 in
theorem tellone_any {most : Int} (b : Bool) (a : Option Addr) (cap : Nat) (l : Pairs) (p1 p2 g n : Nat) (z : Int) (w : World) (h : TellAt w p1 p2 a cap l b g n) (hl : l.length ≤ 1000) (hok : POk most l) (hz : I64 z) (hn : 0 ≤ z) :
    Calls Try.prog 58 #[.int .i64 z, .pointer (some ⟨p1, 0, none⟩), .pointer (some ⟨p2, 0, none⟩)] w fun e w' => ∃ c, e = .returned (.tuple #[.int .i64 c, .bool (tok b l z)]) ∧ (tok b l z = true → c = num1 b l z) ∧ Below w.heap.size w w' := by
  have k1 := h.c1
  have k2 := h.c2
  have HO := Lib.hid h.mp
  clear h
  by_cases h0 : l.length = 0
  · have h0' : (l.length : Int) = 0 := by omega
    have hb0 : ((l.length : Int) == 0) = true := by simpa using h0
    have HN := Lib.hid (num1_nil b l z h0)
    have HK : Hid (tok b l z = true) := Lib.hid (by unfold tok; rw [num1_nil b l z h0]; exact decide_eq_true hn)
    rw [h0] at k1
    go_enter Try.func58, Try.ntmps58
    go_wp2
    go_ret2
    exact ⟨z, by rw [HK.out]; rfl, fun _ => HN.out.symm, Below.refl _ _⟩
  · have HC := Lib.hid (fun c => tell_map hok b z c h0)
    have h0' : ¬ (l.length : Int) = 0 := by omega
    have hb0 : ((l.length : Int) == 0) = false := by simpa using h0
    generalize metD b l = M at *
    go_enter Try.func58, Try.ntmps58
    go_wp2_with (at_lookup; refine wpList_lookup_own_ok_int _ rfl _ _ 91 rfl 3 3 .i64 keyInt Try.underlying91 Try.underlying3 (zeroInt _) g n M rfl HO.out _ _ rfl (keyOf_int_mk Try.underlying3 (I64.wf hz)) ?_; intro c hat hwc; rw [(HC.out c hat).1])
    go_ret2
    exact ⟨_, rfl, (HC.out _ hat).2, Below.refl _ _⟩
#print axioms teller_any
#print axioms tellone_any
end Go.Proofs.Ytdipoaekdafbeaa
