/- A table in memory: while it is made, and to be read; how many labels it has; labels appended. -/
import Derived.Test.YtdipoaekdafbeaaTbMath
import Derived.Test.YtdipoaekdafbeaaCtListV
namespace Go.Proofs.Ytdipoaekdafbeaa
open Go.RowKit Go.Maps Go.ChangeMaps
set_option maxRecDepth 100000
set_option linter.unusedVariables false
open T

/-- Labels in a row of the call's own. -/
def VLab (base : Nat) (ao : Option Addr) (cap : Nat) (ls : Labs) (w : World) : Prop := w.ownsRow base 29 31 (.slice ao ls.length cap) ls.length (labsX ls).toList
theorem labsX_len (ls : Labs) : (labsX ls).toList.length = ls.length * 31 := by
  unfold labsX
  induction ls with
  | nil => rfl
  | cons a t ih =>
    simp only [List.map_cons, List.flatMap_cons, List.length_append, List.length_cons] at ih ⊢
    rw [ih]
    have : (labV a).cells.toList.length = 31 := by show (L.lv a.1 a.2).toList.length = 31; rw [Array.length_toList, L.lv_size]
    rw [this]
    omega
theorem labsX_append (a b : Labs) : (labsX (a ++ b)).toList = (labsX a).toList ++ (labsX b).toList := by simp [labsX]
theorem labsX_get (ls : Labs) (j : Nat) : (labsX ls).toList[j]? = (ls[j / 31]?).bind fun p => (L.lv p.1 p.2)[j % 31]? := by
  show ((ls.map labV).flatMap fun v => v.cells.toList)[j]? = _
  rw [Great.flat_get (s := 31) (by omega) _ (fun v hv => by obtain ⟨n, _, rfl⟩ := List.mem_map.1 hv; exact L.lv_size _ _), List.getElem?_map]
  cases ls[j / 31]? <;> rfl
theorem VLab.nil (base : Nat) (w : World) : VLab base none 0 [] w := World.ownsRow_nil _ _ _ _
theorem VLab.kept {base : Nat} {ao : Option Addr} {cap : Nat} {ls : Labs} {w w' : World} (h : VLab base ao cap ls w) (hb : Below w.heap.size w w') : VLab base ao cap ls w' := by
  have hg : w.grownBy w' none := ⟨hb.os, hb.tape, hb.output, hb.size, fun k hk _ => hb.block k hk⟩
  exact World.ownsRow.kept h hg (by cases Value.ownBlock (.slice ao ls.length cap) <;> simp)
theorem VLab.row {base : Nat} {ao : Option Addr} {cap : Nat} {ls : Labs} {w : World} (h : VLab base ao cap ls w) : LRow w ao ls ∧ (ls.length = 0 → ao = none ∨ ∃ g, ao = some ⟨g, 0, none⟩) := by
  rcases h.2 with ⟨hv, hn⟩ | ⟨g, cap', cur, hv, hbg, hg, _⟩
  · have hao : ao = none := by simpa using congrArg (fun v => match v with | .slice a _ _ => a | _ => none) hv
    exact ⟨fun h0 => by omega, fun _ => .inl hao⟩
  · have hao : ao = some ⟨g, 0, none⟩ := by simpa using congrArg (fun v => match v with | .slice a _ _ => a | _ => none) hv
    subst hao
    refine ⟨fun h0 => ⟨g, 0, rfl, heap_lt hg, fun k hk j v hv => ?_⟩, fun _ => .inr ⟨g, rfl⟩⟩
    have hj : j < 31 := by
      have := (List.getElem?_eq_some_iff.1 hv).1
      rwa [Array.length_toList, L.lv_size] at this
    have c1 := World.ownsRow.cells h (g := g) rfl (k * 31 + j) v (by
      rw [labsX_get, show (k * 31 + j) / 31 = k by omega, show (k * 31 + j) % 31 = j by omega, List.getElem?_eq_getElem hk]
      rw [List.getD_eq_getElem?_getD, List.getElem?_eq_getElem hk] at hv
      simpa using hv)
    rw [Addr.add_lit] at c1
    rw [show 0 + k * 31 + j = 0 + (k * 31 + j) by omega]
    exact c1
theorem VLab.own {base : Nat} {ao : Option Addr} {cap : Nat} {ls : Labs} {w : World} (h : VLab base ao cap ls w) : ∀ g, Value.ownBlock (.slice ao ls.length cap) = some g → base ≤ g := fun g hg => (World.ownsRow.lt h g hg).1
/-- A block of another type, or a map, lies elsewhere. -/
theorem VLab.away {base : Nat} {ao : Option Addr} {cap g : Nat} {ls : Labs} {w : World} (h : VLab base ao cap ls w) {O : Obj} (hg : w.heap[g]? = some O) (hO : ∀ cur, O ≠ .cells cur 29 (0, 0)) : Value.ownBlock (.slice ao ls.length cap) ≠ some g := fun e => by
  rcases h.2 with ⟨hv, _⟩ | ⟨g', cap', cur, hv, _, hg', _⟩
  · rw [hv] at e; cases e
  · rw [hv] at e
    have : g' = g := by simpa [Value.ownBlock] using e
    subst this
    rw [hg] at hg'
    exact hO cur (Option.some.inj hg')

theorem Try.lab_info : (Try.prog.info? 29).map (fun i => (i.zero, i.size, i.bytes)) = some (some (.agg (L.lv 0 0)), 31, 40) := by kernel_rfl
theorem append_labs (base : Nat) (ao : Option Addr) (cap : Nat) (ls ks : Labs) (w : World) (h : VLab base ao cap ls w) (a : Option Addr) (c : Nat) (hk : LRow w a ks) (ha : 0 < ks.length) (ty : TypeId) (hl : ls.length ≤ 1000) (hkl : ks.length ≤ 1000) (hbase : base ≤ w.heap.size) :
    ∃ ao' cap' w', (Builtin.append_ #[42, 42] ty #[.slice ao ls.length cap, .slice a ks.length c]).run Try.prog w = .ok (.slice ao' (ls ++ ks).length cap') w' ∧ VLab base ao' cap' (ls ++ ks) w' ∧ w.grownBy w' (Value.ownBlock (.slice ao ls.length cap)) := by
  obtain ⟨i, hi, hz0, hz1, hz2⟩ := parts_of Try.lab_info
  obtain ⟨b, off, rfl, hb, hr⟩ := hk ha
  have hown : w.ownsRow base 29 i.size (.slice ao ls.length cap) ls.length (labsX ls).toList := by rw [hz1]; exact h
  have hsrc : Src Try.prog i.size 42 (.slice (Option.some ⟨b, off, none⟩) ks.length c) ks.length (labsX ks).toList w := by
    rw [hz1]
    refine Src.ofSlice w Try.underlying42 ⟨b, off, none⟩ ks.length c _ (labsX_len ks) (fun j u hj => ?_) (fun u hu => ?_)
    · rw [Addr.add_lit]
      rw [labsX_get] at hj
      cases hq : ks[j / 31]? with
      | none => rw [hq] at hj; simp at hj
      | some p =>
        rw [hq] at hj
        simp only [Option.bind_some] at hj
        have hlt := (List.getElem?_eq_some_iff.1 hq).1
        have := hr (j / 31) hlt (j % 31) u (by
          rw [List.getD_eq_getElem?_getD, hq]
          simpa using hj)
        rw [show off + j / 31 * 31 + j % 31 = off + j by omega] at this
        exact this
    · have : u ∈ (labsX ks).toList := hu
      unfold labsX at this
      simp only [List.mem_flatMap, List.mem_map] at this
      obtain ⟨v, ⟨p, _, rfl⟩, hv⟩ := this
      exact Array.all_eq_true_iff_forall_mem.1 (L.lv_one p.1 p.2) u (by simpa [labV, Value.cells] using hv)
  obtain ⟨v', w', hr', ho, hg⟩ := append_own_src (P := Try.prog) w base 42 42 ty 29 i (.agg (L.lv 0 0)) Try.underlying42 hi hz0 (by rw [hz1]; exact L.lv_size 0 0) _ _ _ hown _ ks.length _ hsrc (by unfold maxLen; omega) (by rw [hz2]; have : (ls.length + ks.length) * 40 ≤ 2000 * 40 := Nat.mul_le_mul (by omega) (Nat.le_refl _); omega) hbase
  have hlen : (ls ++ ks).length = ls.length + ks.length := List.length_append
  rw [hz1, ← labsX_append] at ho
  rcases ho.2 with ⟨hv, h0⟩ | ⟨g, cap', cur, hv, rest⟩
  · omega
  · subst hv
    exact ⟨_, cap', w', by rw [hlen]; exact hr', by unfold VLab; rw [hlen]; exact ho, hg⟩

/-- A table that is being made. -/
def TabB (base : Nat) (w : World) (g : Nat) (ls : Labs) : Prop := ∃ ao cap m, w.heap[g]? = some (.cells #[.slice ao ls.length cap, .map (some m)] 78 (0, 0)) ∧ VLab base ao cap ls w ∧
  w.ownsMap Try.prog 29 (plainElem Try.prog 3) m ls.length (tabD ls) ∧ base ≤ g ∧ base ≤ m ∧ (ls.length = 0 → ao = none)
theorem TabB.below {base g : Nat} {w w' : World} {ls : Labs} (h : TabB base w g ls) (hb : Below w.heap.size w w') : TabB base w' g ls := by
  obtain ⟨ao, cap, m, h1, h2, h3, h4, h5⟩ := h
  exact ⟨ao, cap, m, (hb.block g (heap_lt h1)).trans h1, h2.kept hb, ownsMap_below h3 hb h3.lt, h4, h5⟩
/-- A table to be read. -/
structure TabR (w : World) (g : Nat) (ls : Labs) (ao : Option Addr) (cap m : Nat) : Prop where
  lt : g < w.heap.size
  c0 : w.cell? ⟨g, 0, none⟩ = some (.slice ao ls.length cap)
  c1 : w.cell? ⟨g, 1, none⟩ = some (.map (some m))
  row : LRow w ao ls
  mp : w.ownsMap Try.prog 29 (plainElem Try.prog 3) m ls.length (tabD ls)
  nil : ls.length = 0 → ao = none
theorem TabR.below {g m cap : Nat} {w w' : World} {ls : Labs} {ao : Option Addr} (h : TabR w g ls ao cap m) (hb : Below w.heap.size w w') : TabR w' g ls ao cap m :=
  ⟨Nat.lt_of_lt_of_le h.lt hb.size, (hb.cell (p := ⟨g, 0, none⟩) h.lt).trans h.c0, (hb.cell (p := ⟨g, 1, none⟩) h.lt).trans h.c1, h.row.below hb, ownsMap_below h.mp hb h.mp.lt, h.nil⟩
theorem TabB.read {base g : Nat} {w : World} {ls : Labs} (h : TabB base w g ls) : ∃ ao cap m, TabR w g ls ao cap m := by
  obtain ⟨ao, cap, m, h1, h2, h3, h4, h5⟩ := h
  exact ⟨ao, cap, m, heap_lt h1, (cell_of_row w g 0 _ _ (0, 0) h1).trans rfl, (cell_of_row w g 1 _ _ (0, 0) h1).trans rfl, h2.row.1, h3, h5.2⟩

theorem Len_any (g n cap : Nat) (ao : Option Addr) (w : World) (h : w.cell? ⟨g, 0, none⟩ = some (.slice ao n cap)) :
    Calls Try.prog 26 #[.pointer (some ⟨g, 0, none⟩)] w fun e w' => e = .returned (.int .i64 n) ∧ w' = w := by
  go_enter Try.func26, Try.ntmps26
  go_wp2
  go_ret
  exact ⟨rfl, rfl⟩
theorem Len_nil (w : World) : Calls Try.prog 26 #[.pointer none] w fun e w' => e = .returned (.int .i64 0) ∧ w' = w := by
  go_enter Try.func26, Try.ntmps26
  go_wp2
  go_ret
  exact ⟨rfl, rfl⟩
#print axioms append_labs
#print axioms Len_any
end Go.Proofs.Ytdipoaekdafbeaa
