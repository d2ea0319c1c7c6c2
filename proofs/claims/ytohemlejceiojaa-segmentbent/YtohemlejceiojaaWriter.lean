/- A writer in memory, and the walk of what adds a text to it. -/
import Derived.Test.YtohemlejceiojaaRows
import Derived.Test.YtohemlejceiojaaBuf
import Derived.WalkSpells
import Derived.Deep.DeepCutAuto
import Derived.Deep.RegionLaw
namespace Go.Proofs.Ytohemlejceiojaa
open Go.RowKit

theorem Try.infoU8 : (Try.prog.info? 5).map (fun i => (i.zero, i.size, i.bytes)) = some (some (.int .u8 0), 1, 1) := by kernel_rfl

/-- A text's bytes, appended to a row that the call owns. -/
theorem append_text (base : Nat) (ao : Option Addr) (cap : Nat) (l : List UInt8) (w : World) (h : Buf base ao cap l w) (s : ByteArray) (ty : TypeId) (hl : l.length ≤ 100000) (hs : s.size ≤ 100000) (hbase : base ≤ w.heap.size) :
    ∃ ao' cap' w', (Builtin.append_ #[35, 9] ty #[.slice ao l.length cap, .string s]).run Try.prog w = .ok (.slice ao' (l ++ s.data.toList).length cap') w' ∧ Buf base ao' cap' (l ++ s.data.toList) w' ∧ w.grownBy w' (Value.ownBlock (.slice ao l.length cap)) := by
  obtain ⟨i, hi, hz0, hz1, hz2⟩ := info_parts Try.infoU8
  have hown : w.ownsRow base 5 i.size (.slice ao l.length cap) l.length (bytesV l) := by rw [hz1]; exact h
  have hsrc : Src Try.prog i.size 9 (.string s) s.size (bytesV s.data.toList) w := by rw [hz1]; exact Src.ofString w Try.underlying9 s
  obtain ⟨v', w', hr, ho, hg⟩ := append_own_src (P := Try.prog) w base 35 9 ty 5 i (.int .u8 0) Try.underlying35 hi hz0 (by rw [hz1]; rfl) _ _ _ hown (.string s) s.size _ hsrc (by unfold maxLen; omega) (by rw [hz2]; omega) hbase
  have hlen : (l ++ s.data.toList).length = l.length + s.size := by rw [List.length_append, Array.length_toList]; rfl
  rw [hz1, ← bytesV_append] at ho
  rcases ho.2 with ⟨hv, h0⟩ | ⟨g, cap', cur, hv, rest⟩
  · subst hv
    exact ⟨none, 0, w', by rw [hlen, h0]; exact hr, by unfold Buf; rw [hlen, h0]; rw [h0] at ho; exact ho, hg⟩
  · subst hv
    exact ⟨_, cap', w', by rw [hlen]; exact hr, by unfold Buf; rw [hlen]; exact ho, hg⟩

theorem step_append_run {P : Program} {ops : Array Oper} {o : Oper} {a : Act} {w : World} {K : Act → World → Prop} {Q : Exit → Act → World → Prop} {E : Prop}
    (hg : o.guard = none) (s x : Operand) (t tx : TypeId) (hop : o.op = Op.call { callee := Callee.builtin Builtin.append, args := #[s, x], argTypes := #[t, tx] })
    (sv xv : Value) (hs : a.eval s = sv) (hx : a.eval x = xv) (v' : Value) (w' : World) (hrun : (Builtin.append_ #[t, tx] o.type #[sv, xv]).run P w = .ok v' w') (hK : K (a.put o.dst v') w') :
    if Region.wanted o (yielded ops a.tmps) = true then Oper.wp P o a w K Q else E := by
  have hw : Region.wanted o (yielded ops a.tmps) = true := by simp [Region.wanted, hg]
  rw [if_pos hw]
  unfold Oper.wp
  simp [execOp, hop, resolve, invoke, builtin, hs, hx, hrun, Result.andThen]
  exact hK

/-- A writer at block b that hasn't failed: what it has written. -/
structure Wr (base b : Nat) (l : List UInt8) (w : World) : Prop where
  low : base ≤ b
  cells : ∃ ao cap, w.heap[b]? = some (.cells #[.bool false, .slice ao l.length cap] 43 (0, 0)) ∧ Buf base ao cap l w

/-- What a call with the writer at b leaves as it was: all below 'base', and every block but b and rows of bytes. -/
structure Kp (base b : Nat) (w w' : World) : Prop where
  below : Below base w w'
  spare : ∀ k cs ty, w.heap[k]? = some (.cells cs ty (0, 0)) → k ≠ b → ty ≠ 5 → w'.heap[k]? = some (.cells cs ty (0, 0))

theorem Kp.refl (base b : Nat) (w : World) : Kp base b w w := ⟨Below.refl _ _, fun _ _ _ h _ _ => h⟩

theorem Kp.trans {base b : Nat} {w w1 w2 : World} (h : Kp base b w w1) (k : Kp base b w1 w2) : Kp base b w w2 :=
  ⟨h.below.trans k.below, fun i cs ty hi h1 h2 => k.spare i cs ty (h.spare i cs ty hi h1 h2) h1 h2⟩

theorem Kp.alloc {base b : Nat} (w : World) (o : Obj) (hb : base ≤ w.heap.size) : Kp base b w (w.alloc o) :=
  ⟨(Below.refl _ _).alloc hb o, fun k _ _ h _ _ => (Below.heap_alloc w o k (lt_of_block h)).trans h⟩

/-- A row of bytes is no writer's block. -/
theorem Buf.other {base : Nat} {ao : Option Addr} {cap b : Nat} {l : List UInt8} {w : World} {cs : Array Value} (h : Buf base ao cap l w) (hb : w.heap[b]? = some (.cells cs 43 (0, 0))) : Value.ownBlock (.slice ao l.length cap) ≠ some b := by
  intro e
  rcases h.2 with ⟨hv, _⟩ | ⟨g, cap', cur, hv, _, hg, _⟩
  · rw [hv] at e; cases e
  · rw [hv] at e
    cases e
    rw [hg] at hb
    simp at hb

/-- Behind an append to its row, a writer's block is as it was. -/
theorem wr_kept {base b cap : Nat} {ao : Option Addr} {l : List UInt8} {w w1 : World} {cs : Array Value} (hcell : w.heap[b]? = some (.cells cs 43 (0, 0))) (hbuf : Buf base ao cap l w) (hg : w.drew.grownBy w1 (Value.ownBlock (.slice ao l.length cap))) :
    w1.heap[b]? = some (.cells cs 43 (0, 0)) :=
  (hg.block b (lt_of_block hcell) (fun e => hbuf.other hcell e.symm)).trans hcell

/-- What a writer is behind a store of its row. -/
theorem wr_store {base b cap : Nat} {ao : Option Addr} {l : List UInt8} {w : World} {v : Value} (hlow : base ≤ b) (hcell : w.heap[b]? = some (.cells #[.bool false, v] 43 (0, 0))) (hbuf : Buf base ao cap l w) :
    Wr base b l (w.setCell ⟨b, 1, none⟩ (.slice ao l.length cap)) := by
  refine ⟨hlow, ao, cap, ?_, ownsRow_setCell_other hbuf (hbuf.other hcell) _⟩
  have hlt := lt_of_block hcell
  have h' : w.heap[b] = .cells #[.bool false, v] 43 (0, 0) := by simpa [Array.getElem?_eq_getElem hlt] using hcell
  show (w.heap.modify b _)[b]? = _
  rw [Array.getElem?_eq_getElem (by simpa using hlt), Array.getElem_modify_self, h']
  rfl

/-- What an append and a store leave as it was. -/
theorem wr_below {base b cap : Nat} {ao : Option Addr} {l : List UInt8} {w w1 : World} (hlow : base ≤ b) (hblt : b < w.heap.size) (hbuf : Buf base ao cap l w) (hg : w.drew.grownBy w1 (Value.ownBlock (.slice ao l.length cap))) (v : Value) :
    Kp base b w (w1.setCell ⟨b, 1, none⟩ v) := by
  refine ⟨(((Below.refl base w).drew).grown hg (by show base ≤ w.heap.size; omega) (fun k hk => (hbuf.lt k hk).1)).setCell hlow _, fun k cs ty h h1 h2 => ?_⟩
  rw [Below.heap_setCell _ _ _ _ h1, hg.block k (lt_of_block h) ?_]
  · exact h
  · intro e
    rcases hbuf.2 with ⟨hv, _⟩ | ⟨g, cap', cur, hv, _, hh, _⟩
    · rw [hv] at e; cases e
    · rw [hv] at e
      cases e
      rw [hh] at h
      simp at h
      exact h2 h.2.symm

/-- What a writer has behind a text: it keeps at most 65536 bytes. -/
def addTo (l : List UInt8) (s : List UInt8) : List UInt8 := l ++ s.take (65536 - l.length)

theorem addTo_fit (l : List UInt8) (s : ByteArray) (h : s.size ≤ 65536 - l.length) : addTo l s.data.toList = l ++ s.data.toList := by
  unfold addTo; rw [List.take_of_length_le (by rw [Array.length_toList]; exact h)]

theorem addTo_cut (l : List UInt8) (s : ByteArray) : addTo l s.data.toList = l ++ (s.extract 0 (65536 - l.length)).data.toList := by
  unfold addTo; simp [ByteArray.data_extract, Array.toList_extract, List.extract_eq_take_drop]

theorem cut_size (l : List UInt8) (s : ByteArray) (h : ¬ s.size ≤ 65536 - l.length) : (s.extract 0 (65536 - l.length)).size = 65536 - l.length := by
  rw [ByteArray.size_extract]; omega

theorem joined_length (l : List UInt8) (s : ByteArray) : (l ++ s.data.toList).length = l.length + s.size := by
  rw [List.length_append, Array.length_toList]; rfl

/-- The writer and the world behind the store that ends 'add'. -/
theorem add_end {base b cap cap' : Nat} {ao ao' : Option Addr} {l k : List UInt8} {w w1 : World} (hlow : base ≤ b) (hblt : b < w.heap.size) (hbuf : Buf base ao cap l w)
    (hg : w.drew.grownBy w1 (Value.ownBlock (.slice ao l.length cap))) (hk : w1.heap[b]? = some (.cells #[.bool false, .slice ao l.length cap] 43 (0, 0))) (hbuf1 : Buf base ao' cap' k w1) (n : Nat) (hn : k.length = n) :
    Wr base b k (w1.setCell ⟨b, 1, none⟩ (.slice ao' n cap')) ∧ Kp base b w (w1.setCell ⟨b, 1, none⟩ (.slice ao' n cap')) := by
  subst hn
  exact ⟨wr_store hlow hk hbuf1, wr_below hlow hblt hbuf hg _⟩

set_option maxRecDepth 100000 in
set_option maxHeartbeats 2000000 in
theorem add_fit (base b : Nat) (l : List UInt8) (s : ByteArray) (w : World) (h : Wr base b l w) (hl : l.length ≤ 65536) (hs : s.size ≤ 100000) (hfit : s.size ≤ 65536 - l.length) :
    Calls Try.prog 25 #[.pointer (some ⟨b, 0, none⟩), .string s] w fun e w' => e = .returned (.tuple #[]) ∧ Wr base b (addTo l s.data.toList) w' ∧ Kp base b w w' := by
  rw [addTo_fit l s hfit]
  obtain ⟨hlow, ao, cap, hcell, hbuf⟩ := h
  have hblt := lt_of_block hcell
  have c1 : w.cell? ⟨b, 1, none⟩ = some (.slice ao l.length cap) := by simp [World.cell?, hcell]
  have f1 : w.frozen? ⟨b, 1, none⟩ = false := by simp [World.frozen?, hcell]
  obtain ⟨ao', cap', w1, hrun, hbuf1, hgrow⟩ := append_text base ao cap l w.drew hbuf s 35 (by omega) (by omega) (by show base ≤ w.heap.size; omega)
  have hk1 := wr_kept hcell hbuf hgrow
  have d1 : w1.cell? ⟨b, 1, none⟩ = some (.slice ao l.length cap) := by simp [World.cell?, hk1]
  have d2 : w1.frozen? ⟨b, 1, none⟩ = false := by simp [World.frozen?, hk1]
  have hend := add_end hlow hblt hbuf hgrow hk1 hbuf1 (l.length + s.size) (joined_length l s)
  have Hrun := Lib.hid hrun
  have Hend := Lib.hid hend
  clear hrun hbuf1 hgrow hcell hk1 hend hbuf
  go_enter Try.func25, Try.ntmps25
  go_wp2
  have hm : (65536 - (l.length : Int) < (s.size : Int)) = False := by simp; omega
  go_region_law (refine step_append_run rfl _ _ _ _ rfl _ _ rfl rfl _ _ Hrun.out ?_)
  all_goals
    go_end0
    exact ⟨rfl, Hend.out⟩

set_option maxRecDepth 100000 in
set_option maxHeartbeats 2000000 in
theorem add_cut (base b : Nat) (l : List UInt8) (s : ByteArray) (w : World) (h : Wr base b l w) (hl : l.length ≤ 65536) (hs : s.size ≤ 100000) (hfit : ¬ s.size ≤ 65536 - l.length) :
    Calls Try.prog 25 #[.pointer (some ⟨b, 0, none⟩), .string s] w fun e w' => e = .returned (.tuple #[]) ∧ Wr base b (addTo l s.data.toList) w' ∧ Kp base b w w' := by
  rw [addTo_cut l s]
  obtain ⟨hlow, ao, cap, hcell, hbuf⟩ := h
  have hblt := lt_of_block hcell
  have c1 : w.cell? ⟨b, 1, none⟩ = some (.slice ao l.length cap) := by simp [World.cell?, hcell]
  have f1 : w.frozen? ⟨b, 1, none⟩ = false := by simp [World.frozen?, hcell]
  obtain ⟨ao', cap', w1, hrun, hbuf1, hgrow⟩ := append_text base ao cap l w.drew hbuf (s.extract 0 (65536 - l.length)) 35 (by omega) (by rw [cut_size l s hfit]; omega) (by show base ≤ w.heap.size; omega)
  have hk1 := wr_kept hcell hbuf hgrow
  have d1 : w1.cell? ⟨b, 1, none⟩ = some (.slice ao l.length cap) := by simp [World.cell?, hk1]
  have d2 : w1.frozen? ⟨b, 1, none⟩ = false := by simp [World.frozen?, hk1]
  have hend := add_end hlow hblt hbuf hgrow hk1 hbuf1 (l.length + min (65536 - l.length) s.size) (by rw [joined_length, ByteArray.size_extract]; omega)
  have Hrun := Lib.hid hrun
  have Hend := Lib.hid hend
  clear hrun hbuf1 hgrow hcell hk1 hend hbuf
  go_enter Try.func25, Try.ntmps25
  go_wp2
  have hm : (65536 - (l.length : Int) < (s.size : Int)) = True := by simp; omega
  have hm2 : (l.length : Int) ≤ 65536 := by omega
  have hm3 : 65536 - (l.length : Int) ≤ (s.size : Int) := by omega
  have hm4 : (65536 - (l.length : Int)).toNat = 65536 - l.length := by omega
  go_region_law (refine step_append_run rfl _ _ _ _ rfl _ _ rfl rfl _ _ Hrun.out ?_)
  all_goals
    go_end0
    exact ⟨rfl, Hend.out⟩

theorem add_any (base b : Nat) (l : List UInt8) (s : ByteArray) (w : World) (h : Wr base b l w) (hl : l.length ≤ 65536) (hs : s.size ≤ 100000) :
    Calls Try.prog 25 #[.pointer (some ⟨b, 0, none⟩), .string s] w fun e w' => e = .returned (.tuple #[]) ∧ Wr base b (addTo l s.data.toList) w' ∧ Kp base b w w' := by
  by_cases hfit : s.size ≤ 65536 - l.length
  · exact add_fit base b l s w h hl hs hfit
  · exact add_cut base b l s w h hl hs hfit
#print axioms add_any
end Go.Proofs.Ytohemlejceiojaa
