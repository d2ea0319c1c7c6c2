/- A label, a domain, a slice of domains, that came in. -/
import Derived.Test.YtdipoaekdafbeaaDoRight2
import Derived.Test.YtdipoaekdafbeaaLbRow
import Derived.ProofKit
import Derived.OpenShut
import Derived.Deep.Slices
namespace Go.Proofs.Ytdipoaekdafbeaa
open Go.RowKit Go.ChangeShapes Go.WideShapes Go.ChangeAt Go.Deep
set_option linter.unusedVariables false
set_option maxRecDepth 100000
open D

theorem Try.lByte : Try.prog.cellsOf 5 = 1 := by kernel_rfl
theorem Try.lCats : Try.prog.cellsOf 27 = 30 := by kernel_rfl
theorem Try.lLab : Try.prog.cellsOf 29 = 31 := by kernel_rfl
theorem Try.lInt : Try.prog.cellsOf 3 = 1 := by kernel_rfl
theorem Try.lPair : Try.prog.cellsOf 67 = 2 := by kernel_rfl
theorem Try.lPairs : Try.prog.cellsOf 23 = 1 := by kernel_rfl
theorem Try.lDoi : Try.prog.cellsOf 25 = 3 := by kernel_rfl
theorem Try.lU32 : Try.prog.cellsOf 22 = 1 := by kernel_rfl

theorem lab_bytes (cs : Array Value) (hz : cs.size = 30) (h : ∀ i, i < 30 → ∃ x : Int, cs[i]? = some (.int .u8 x) ∧ 0 ≤ x ∧ x < 256) : ∃ n, cs = C.cv n ∧ n < 2 ^ 240 := by
  let f : Nat → Nat := fun i => match cs[i]? with | some (.int .u8 x) => x.toNat % 256 | _ => 0
  have hf : ∀ i, f i < 256 := fun i => by
    show (match cs[i]? with | some (.int .u8 x) => x.toNat % 256 | _ => 0) < 256
    split
    · exact Nat.mod_lt _ (by decide)
    · decide
  have hcs : cs = C.bv f := by
    apply Array.ext_getElem?
    intro i
    by_cases hi : i < 30
    · obtain ⟨x, hx, h0, h1⟩ := h i hi
      rw [C.bv_get f i hi, hx]
      have : f i = x.toNat % 256 := by show (match cs[i]? with | some (.int .u8 x) => x.toNat % 256 | _ => 0) = _; rw [hx]
      rw [this]
      congr 2
      omega
    · rw [Array.getElem?_eq_none (by omega), Array.getElem?_eq_none (by rw [C.bv_size]; omega)]
  obtain ⟨n, hn, e⟩ := C.cv_of f hf
  exact ⟨n, hcs.trans e, hn⟩

theorem lab_of {H : Type} {enc : TypeId × Value → H} {W : World} {base b0 : Nat} {spare : Nat → Bool} {held : Bool} {r : Reach} {v : Value} {d : DataW H} {p : List MemPlace}
    (hv : Value.okWide Try.prog W r b0 29 v) (h : DataW.Trod enc Try.prog W base spare held 29 v d p) : ∃ (z : Int) (n : Nat), v = .agg (L.lv z n) ∧ n < 2 ^ 240 ∧ I64 z := by
  simp only [Value.okWide, Try.underlying29] at hv
  obtain ⟨cs, rfl, hsz, _⟩ := hv
  obtain ⟨fuel, hf0⟩ := h
  obtain ⟨xs, n', _, _, hlen, hxl, hf⟩ := DataW.trod_struct Try.underlying29 hf0
  have hz : cs.size = 31 := by rw [hsz]; exact Try.lLab
  have hcl : (Value.agg cs).cells.toList = cs.toList := rfl
  rw [hcl] at hf
  match xs, hxl with
  | [x0, x1], _ =>
    have h0 : DataW.trod enc Try.prog W base spare held n' 3 ((cs.toList.drop 0).take (Try.prog.cellsOf 3)) = some x0 := hf 0 _ rfl
    have h1 : DataW.trod enc Try.prog W base spare held n' 27 ((cs.toList.drop 1).take (Try.prog.cellsOf 27)) = some x1 := hf 1 _ rfl
    rw [Try.lInt] at h0
    rw [Try.lCats] at h1
    obtain ⟨z, e0, _, wz⟩ := DataW.trod_int Try.underlying3 h0
    obtain ⟨ys, m, _, _, hyl, hyx, hfy⟩ := DataW.trod_array Try.underlying27 h1
    have hc0 : cs[0]? = some (.int .i64 z) := by
      have h2 : (cs.toList.drop 0).take 1 = [.int .i64 z] := e0
      have : cs.toList[0]? = some (.int .i64 z) := by
        rw [List.drop_zero] at h2
        have := congrArg (fun l => l[0]?) h2
        simpa [List.getElem?_take] using this
      simpa using this
    obtain ⟨n, hn, hl⟩ := lab_bytes (cs.extract 1 31) (by simp [hz]) (fun i hi => by
      have h2 := hfy i hi
      rw [Try.lByte, Nat.mul_one, List.getElem?_eq_getElem (show i < ys.length by omega)] at h2
      obtain ⟨x, e, _, wx⟩ := DataW.trod_int Try.underlying5 h2
      have hb := bounds_u8 wx
      refine ⟨x, ?_, by omega, by omega⟩
      have e2 := congrArg (fun l => l[0]?) e
      simp only [List.getElem?_take, List.getElem?_drop, List.getElem?_cons_zero] at e2
      rw [Array.getElem?_extract, if_pos (by omega)]
      simpa [hi, show ¬ 30 ≤ i by omega] using e2)
    refine ⟨z, n, ?_, hl, bounds_i64 wz⟩
    congr 1
    apply Array.ext_getElem?
    intro i
    by_cases h0 : i = 0
    · subst h0; rw [hc0, L.lv_zero]
    · obtain ⟨j, rfl⟩ : ∃ j, i = 1 + j := ⟨i - 1, by omega⟩
      rw [L.lv_succ, ← hn, Array.getElem?_extract]
      split
      · rfl
      · rw [Array.getElem?_eq_none (by omega)]


/-- What is known of a domain that came in. -/
structure DIn (w : World) (d : Dm) : Prop where
  lr : PRow w d.la d.lv
  cr : PRow w d.ca d.ct
  lw : PWf d.lv
  cw : PWf d.ct
theorem DIn.ok {w : World} {d : Dm} (h : DIn w d) (h1 : d.lv.length ≤ 1000) (h2 : d.ct.length ≤ 1000) : DOk w d := ⟨h.lr, h.cr, h1, h2, h.lw, h.cw⟩
theorem DIn.below {w w' : World} {d : Dm} (h : DIn w d) (hb : Below w.heap.size w w') : DIn w' d := ⟨h.lr.below hb, h.cr.below hb, h.lw, h.cw⟩

section
variable {H : Type} {enc : TypeId × Value → H} {W : World} {base b0 : Nat} {spare : Nat → Bool} {held : Bool} {n : Nat} {cs : List Value} {x : DataW H × List MemPlace}
theorem pair_cells (h : DataW.trod enc Try.prog W base spare held n 67 cs = some x) : ∃ k l : Int, cs = [.int .i64 k, .int .i64 l] ∧ I64 k ∧ I64 l := by
  obtain ⟨xs, n', _, _, hlen, hxl, hf⟩ := DataW.trod_struct Try.underlying67 h
  rw [Try.lPair] at hlen
  match cs, hlen with
  | [c0, c1], _ =>
    match xs, hxl with
    | [x0, x1], _ =>
      have h0 : DataW.trod enc Try.prog W base spare held n' 3 (([c0, c1].drop 0).take (Try.prog.cellsOf 3)) = some x0 := hf 0 _ rfl
      have h1 : DataW.trod enc Try.prog W base spare held n' 3 (([c0, c1].drop 1).take (Try.prog.cellsOf 3)) = some x1 := hf 1 _ rfl
      rw [Try.lInt] at h0 h1
      obtain ⟨k, e0, _, w0⟩ := DataW.trod_int Try.underlying3 h0
      obtain ⟨l, e1, _, w1⟩ := DataW.trod_int Try.underlying3 h1
      have e0' : c0 = .int .i64 k := by simpa using e0
      have e1' : c1 = .int .i64 l := by simpa using e1
      exact ⟨k, l, by rw [e0', e1'], bounds_i64 w0, bounds_i64 w1⟩
theorem pairs_cell (h : DataW.trod enc Try.prog W base spare held n 23 cs = some x) : ∃ (a : Option Addr) (cap : Nat) (l : Pairs), cs = [.slice a l.length cap] ∧ PRow W a l ∧ PWf l := by
  rcases open_slice Try.underlying23 h with ⟨hcs, _⟩ | ⟨ad, len, cap, m, n1, D, Pl, hcs, _, hl, hm, hmm, _, hi⟩
  · exact ⟨none, 0, [], hcs, fun h => by simp at h, fun k hk => by simp at hk⟩
  · rw [Try.lPair] at hi
    have hlm : len ≤ m := by rw [hmm]; split <;> omega
    obtain ⟨f, hf⟩ := choose_lt (α := Int × Int) (n := len) (p := fun i p => W.cell? ((ad.add (i * 2)).add 0) = some (.int .i64 p.1) ∧ W.cell? ((ad.add (i * 2)).add 1) = some (.int .i64 p.2) ∧ I64 p.1 ∧ I64 p.2) (fun i h => by
      obtain ⟨cs, hc, ht⟩ := hi i (by omega)
      obtain ⟨k, s, rfl, w0, w1⟩ := pair_cells ht
      obtain ⟨_, _, hat⟩ := World.cells?_some hc
      exact ⟨(k, s), hat 0 (by omega), hat 1 (by omega), w0, w1⟩)
    have hp : ∀ i, i < len → pt ((List.range len).map f) i = f i := fun i h => by
      unfold pt
      rw [List.getD_eq_getElem?_getD, List.getElem?_map, List.getElem?_range h]; rfl
    refine ⟨some ad, cap, (List.range len).map f, by simpa using hcs, fun h0 => ?_, fun k hk => ?_⟩
    · have h0' : 0 < len := by simpa using h0
      obtain ⟨b, off, spot⟩ := ad
      have hc := (hf 0 h0').1
      have hspot : spot = none := by simpa [Addr.add] using World.cell?_spot hc
      subst hspot
      have hval : ∀ (i q : Nat), ((⟨b, off, none⟩ : Addr).add (i * 2)).add q = ⟨b, off + i * 2 + q, none⟩ := fun i q => by rw [Addr.add_lit, Addr.add_lit]
      rw [hval] at hc
      refine ⟨b, off, rfl, World.block_lt_of_cell? _ _ hc, fun k hk => ?_⟩
      have hk' : k < len := by simpa using hk
      have := hf k hk'
      rw [hval, hval, Nat.add_zero] at this
      rw [hp k hk']
      exact ⟨this.1, this.2.1⟩
    · have hk' : k < len := by simpa using hk
      rw [hp k hk']
      exact (hf k hk').2.2
theorem dm_cells (h : DataW.trod enc Try.prog W base spare held n 25 cs = some x) : ∃ d : Dm, cs = d.v.toList ∧ DIn W d := by
  obtain ⟨xs, n', _, _, hlen, hxl, hf⟩ := DataW.trod_struct Try.underlying25 h
  rw [Try.lDoi] at hlen
  match cs, hlen with
  | [c0, c1, c2], _ =>
    match xs, hxl with
    | [x0, x1, x2], _ =>
      have h0 : DataW.trod enc Try.prog W base spare held n' 22 (([c0, c1, c2].drop 0).take (Try.prog.cellsOf 22)) = some x0 := hf 0 _ rfl
      have h1 : DataW.trod enc Try.prog W base spare held n' 23 (([c0, c1, c2].drop 1).take (Try.prog.cellsOf 23)) = some x1 := hf 1 _ rfl
      have h2 : DataW.trod enc Try.prog W base spare held n' 23 (([c0, c1, c2].drop 2).take (Try.prog.cellsOf 23)) = some x2 := hf 2 _ rfl
      rw [Try.lU32] at h0
      rw [Try.lPairs] at h1 h2
      obtain ⟨k, e0, _, w0⟩ := DataW.trod_int Try.underlying22 h0
      obtain ⟨la, lc, lv, e1, r1, q1⟩ := pairs_cell h1
      obtain ⟨ca, cc, ct, e2, r2, q2⟩ := pairs_cell h2
      have e0' : c0 = .int .u32 k := by simpa using e0
      have e1' : c1 = .slice la lv.length lc := by simpa using e1
      have e2' : c2 = .slice ca ct.length cc := by simpa using e2
      exact ⟨⟨k, la, lc, lv, ca, cc, ct⟩, by rw [e0', e1', e2']; rfl, ⟨r1, r2, q1, q2⟩⟩
theorem dm_of {r : Reach} {v : Value} {d : DataW H} {p : List MemPlace}
    (hv : Value.okWide Try.prog W r b0 25 v) (h : DataW.Trod enc Try.prog W base spare held 25 v d p) : ∃ x : Dm, v = .agg x.v ∧ DIn W x := by
  obtain ⟨cs, rfl, hsz⟩ := okWide_struct Try.underlying25 hv
  obtain ⟨fuel, hf0⟩ := h
  obtain ⟨x, e, hx⟩ := dm_cells (cs := cs.toList) hf0
  exact ⟨x, by rw [Array.toList_inj.1 e], hx⟩
theorem dms_of {r : Reach} {v : Value} {d : DataW H} {p : List MemPlace}
    (hv : Value.okWide Try.prog W r b0 39 v) (h : DataW.Trod enc Try.prog W base spare held 39 v d p) : ∃ (a : Option Addr) (cap : Nat) (l : List Dm), v = .slice a l.length cap ∧ DRow W a l ∧ ∀ k, k < l.length → DIn W (dm l k) := by
  obtain ⟨fuel, hf⟩ := h
  obtain ⟨a, len, cap, rfl⟩ := okWide_slice Try.underlying39 hv
  rcases open_slice Try.underlying39 hf with ⟨hcs, _⟩ | ⟨ad, len', cap', m, n1, D, Pl, hcs, _, hl, hm, hmm, _, hi⟩
  · simp [Value.cells] at hcs
    obtain ⟨rfl, rfl, rfl⟩ := hcs
    exact ⟨none, 0, [], rfl, fun h => by simp at h, fun k hk => by simp at hk⟩
  · simp [Value.cells] at hcs
    obtain ⟨rfl, rfl, rfl⟩ := hcs
    rw [Try.lDoi] at hi
    have hlm : len ≤ m := by rw [hmm]; split <;> omega
    haveI : Inhabited Dm := ⟨d0⟩
    obtain ⟨f, hf⟩ := choose_lt (α := Dm) (n := len) (p := fun i d => W.cell? ((ad.add (i * 3)).add 0) = some (.int .u32 d.num) ∧ W.cell? ((ad.add (i * 3)).add 1) = some (.slice d.la d.lv.length d.lc) ∧ W.cell? ((ad.add (i * 3)).add 2) = some (.slice d.ca d.ct.length d.cc) ∧ DIn W d) (fun i h => by
      obtain ⟨cs, hc, ht⟩ := hi i (by omega)
      obtain ⟨d, e, hd⟩ := dm_cells ht
      subst e
      obtain ⟨_, _, hat⟩ := World.cells?_some hc
      exact ⟨d, hat 0 (by omega), hat 1 (by omega), hat 2 (by omega), hd⟩)
    have hp : ∀ i, i < len → dm ((List.range len).map f) i = f i := fun i h => by
      unfold dm
      rw [List.getD_eq_getElem?_getD, List.getElem?_map, List.getElem?_range h]; rfl
    refine ⟨some ad, cap, (List.range len).map f, by simp, fun h0 => ?_, fun k hk => ?_⟩
    · have h0' : 0 < len := by simpa using h0
      obtain ⟨b, off, spot⟩ := ad
      have hc := (hf 0 h0').1
      have hspot : spot = none := by simpa [Addr.add] using World.cell?_spot hc
      subst hspot
      have hval : ∀ (i q : Nat), ((⟨b, off, none⟩ : Addr).add (i * 3)).add q = ⟨b, off + i * 3 + q, none⟩ := fun i q => by rw [Addr.add_lit, Addr.add_lit]
      rw [hval] at hc
      refine ⟨b, off, rfl, World.block_lt_of_cell? _ _ hc, fun k hk => ?_⟩
      have hk' : k < len := by simpa using hk
      have := hf k hk'
      rw [hval, hval, hval, Nat.add_zero] at this
      rw [hp k hk']
      exact ⟨this.1, this.2.1, this.2.2.1⟩
    · have hk' : k < len := by simpa using hk
      rw [hp k hk']
      exact (hf k hk').2.2.2
end
#print axioms lab_of
#print axioms dm_of
#print axioms dms_of
end Go.Proofs.Ytdipoaekdafbeaa
