/- A label, a slice of labels, that came in. -/
import Derived.Test.YtdipoaekdafbeaaTbLow
import Derived.ProofKit
import Derived.OpenShut
import Derived.Deep.Slices
namespace Go.Proofs.Ytdipoaekdafbeaa
open Go.RowKit Go.ChangeShapes Go.WideShapes Go.ChangeAt Go.Deep
set_option linter.unusedVariables false
set_option maxRecDepth 100000
open T

theorem Try.lByte : Try.prog.cellsOf 5 = 1 := by kernel_rfl
theorem Try.lCats : Try.prog.cellsOf 27 = 30 := by kernel_rfl
theorem Try.lLab : Try.prog.cellsOf 29 = 31 := by kernel_rfl
theorem Try.lInt : Try.prog.cellsOf 3 = 1 := by kernel_rfl

theorem lab_bytes (cs : Array Value) (hz : cs.size = 30) (h : ∀ i, i < 30 → ∃ x : Int, cs[i]? = some (.int .u8 x) ∧ 0 ≤ x ∧ x < 256) : ∃ n, cs = C.cv n ∧ n < 2 ^ 240 := by
  let f : Nat → Nat := fun i => match cs[i]? with | some (.int .u8 x) => x.toNat % 256 | _ => 0
  have hf : ∀ i, f i < 256 := fun i => by
    show (match cs[i]? with | some (.int .u8 x) => x.toNat % 256 | _ => 0) < 256
    split
    · exact Nat.mod_lt _ (by decide)
    · decide
  have hcs : cs = C.bv f := by
    apply Array.ext_getElem?
    intro i
    by_cases hi : i < 30
    · obtain ⟨x, hx, h0, h1⟩ := h i hi
      rw [C.bv_get f i hi, hx]
      have : f i = x.toNat % 256 := by show (match cs[i]? with | some (.int .u8 x) => x.toNat % 256 | _ => 0) = _; rw [hx]
      rw [this]
      congr 2
      omega
    · rw [Array.getElem?_eq_none (by omega), Array.getElem?_eq_none (by rw [C.bv_size]; omega)]
  obtain ⟨n, hn, e⟩ := C.cv_of f hf
  exact ⟨n, hcs.trans e, hn⟩

theorem lab_cells {H : Type} {enc : TypeId × Value → H} {W : World} {base : Nat} {spare : Nat → Bool} {held : Bool} {fuel : Nat} {cs : Array Value} {x : DataW H × List MemPlace}
    (hz : cs.size = 31) (hf0 : DataW.trod enc Try.prog W base spare held fuel 29 cs.toList = some x) : ∃ (z : Int) (n : Nat), cs = L.lv z n ∧ n < 2 ^ 240 ∧ I64 z := by
  obtain ⟨xs, n', _, _, hlen, hxl, hf⟩ := DataW.trod_struct Try.underlying29 hf0
  match xs, hxl with
  | [x0, x1], _ =>
    have h0 : DataW.trod enc Try.prog W base spare held n' 3 ((cs.toList.drop 0).take (Try.prog.cellsOf 3)) = some x0 := hf 0 _ rfl
    have h1 : DataW.trod enc Try.prog W base spare held n' 27 ((cs.toList.drop 1).take (Try.prog.cellsOf 27)) = some x1 := hf 1 _ rfl
    rw [Try.lInt] at h0
    rw [Try.lCats] at h1
    obtain ⟨z, e0, _, wz⟩ := DataW.trod_int Try.underlying3 h0
    obtain ⟨ys, m, _, _, hyl, hyx, hfy⟩ := DataW.trod_array Try.underlying27 h1
    have hc0 : cs[0]? = some (.int .i64 z) := by
      have h2 : (cs.toList.drop 0).take 1 = [.int .i64 z] := e0
      have : cs.toList[0]? = some (.int .i64 z) := by
        rw [List.drop_zero] at h2
        have := congrArg (fun l => l[0]?) h2
        simpa [List.getElem?_take] using this
      simpa using this
    obtain ⟨n, hn, hl⟩ := lab_bytes (cs.extract 1 31) (by simp [hz]) (fun i hi => by
      have h2 := hfy i hi
      rw [Try.lByte, Nat.mul_one, List.getElem?_eq_getElem (show i < ys.length by omega)] at h2
      obtain ⟨x, e, _, wx⟩ := DataW.trod_int Try.underlying5 h2
      have hb := bounds_u8 wx
      refine ⟨x, ?_, by omega, by omega⟩
      have e2 := congrArg (fun l => l[0]?) e
      simp only [List.getElem?_take, List.getElem?_drop, List.getElem?_cons_zero] at e2
      rw [Array.getElem?_extract, if_pos (by omega)]
      simpa [hi, show ¬ 30 ≤ i by omega] using e2)
    refine ⟨z, n, ?_, hl, bounds_i64 wz⟩
    apply Array.ext_getElem?
    intro i
    by_cases h0 : i = 0
    · subst h0; rw [hc0, L.lv_zero]
    · obtain ⟨j, rfl⟩ : ∃ j, i = 1 + j := ⟨i - 1, by omega⟩
      rw [L.lv_succ, ← hn, Array.getElem?_extract]
      split
      · rfl
      · rw [Array.getElem?_eq_none (by omega)]

theorem tlab_of {H : Type} {enc : TypeId × Value → H} {W : World} {base b0 : Nat} {spare : Nat → Bool} {held : Bool} {r : Reach} {v : Value} {d : DataW H} {p : List MemPlace}
    (hv : Value.okWide Try.prog W r b0 29 v) (h : DataW.Trod enc Try.prog W base spare held 29 v d p) : ∃ (z : Int) (n : Nat), v = .agg (L.lv z n) ∧ n < 2 ^ 240 ∧ I64 z := by
  obtain ⟨cs, rfl, hsz⟩ := okWide_struct Try.underlying29 hv
  obtain ⟨fuel, hf0⟩ := h
  obtain ⟨z, n, e, h1, h2⟩ := lab_cells (cs := cs) (by rw [hsz]; exact Try.lLab) hf0
  exact ⟨z, n, by rw [e], h1, h2⟩
theorem labs_of {H : Type} {enc : TypeId × Value → H} {W : World} {base b0 : Nat} {spare : Nat → Bool} {held : Bool} {r : Reach} {v : Value} {d : DataW H} {p : List MemPlace}
    (hv : Value.okWide Try.prog W r b0 42 v) (h : DataW.Trod enc Try.prog W base spare held 42 v d p) : ∃ (a : Option Addr) (cap : Nat) (l : Labs), v = .slice a l.length cap ∧ LRow W a l ∧ ∀ p ∈ l, ok p := by
  obtain ⟨fuel, hf⟩ := h
  obtain ⟨a, len, cap, rfl⟩ := okWide_slice Try.underlying42 hv
  rcases open_slice Try.underlying42 hf with ⟨hcs, _⟩ | ⟨ad, len', cap', m, n1, D, Pl, hcs, _, hl, hm, hmm, _, hi⟩
  · simp [Value.cells] at hcs
    obtain ⟨rfl, rfl, rfl⟩ := hcs
    exact ⟨none, 0, [], rfl, fun h => by simp at h, fun p hp => by simp at hp⟩
  · simp [Value.cells] at hcs
    obtain ⟨rfl, rfl, rfl⟩ := hcs
    rw [Try.lLab] at hi
    have hlm : len ≤ m := by rw [hmm]; split <;> omega
    obtain ⟨f, hf⟩ := choose_lt (α := Int × Nat) (n := len) (p := fun i p => (∀ j, j < 31 → W.cell? ((ad.add (i * 31)).add j) = (L.lv p.1 p.2).toList[j]?) ∧ ok p) (fun i h => by
      obtain ⟨cs, hc, ht⟩ := hi i (by omega)
      obtain ⟨_, hlen, hat⟩ := World.cells?_some hc
      obtain ⟨z, n, e, h1, h2⟩ := lab_cells (cs := cs.toArray) (by simpa using hlen) ht
      have e' : cs = (L.lv z n).toList := by rw [← e]
      refine ⟨(z, n), fun j hj => ?_, h2, h1⟩
      rw [hat j hj]
      subst e'
      rfl)
    have hp : ∀ i, i < len → ((List.range len).map f).getD i (0, 0) = f i := fun i h => by
      rw [List.getD_eq_getElem?_getD, List.getElem?_map, List.getElem?_range h]; rfl
    refine ⟨some ad, cap, (List.range len).map f, by simp, fun h0 => ?_, fun p hp => ?_⟩
    · have h0' : 0 < len := by simpa using h0
      obtain ⟨b, off, spot⟩ := ad
      have hc := (hf 0 h0').1 0 (by omega)
      have hc' : (L.lv (f 0).1 (f 0).2).toList[0]? = some (.int .i64 (f 0).1) := by rw [Array.getElem?_toList]; exact L.lv_zero _ _
      rw [hc'] at hc
      have hspot : spot = none := by simpa [Addr.add] using World.cell?_spot hc
      subst hspot
      have hval : ∀ (i q : Nat), ((⟨b, off, none⟩ : Addr).add (i * 31)).add q = ⟨b, off + i * 31 + q, none⟩ := fun i q => by rw [Addr.add_lit, Addr.add_lit]
      rw [hval] at hc
      refine ⟨b, off, rfl, World.block_lt_of_cell? _ _ hc, fun k hk j v hv => ?_⟩
      have hk' : k < len := by simpa using hk
      rw [hp k hk'] at hv
      have hj : j < 31 := by
        have := (List.getElem?_eq_some_iff.1 hv).1
        rwa [Array.length_toList, L.lv_size] at this
      have := (hf k hk').1 j hj
      rw [hval] at this
      rw [this, hv]
    · obtain ⟨i, hi, rfl⟩ := List.mem_map.1 hp
      exact (hf i (List.mem_range.1 hi)).2
#print axioms tlab_of
#print axioms labs_of
end Go.Proofs.Ytdipoaekdafbeaa
