/- The walks of words that a writer is handed, and of what it says at the end. -/
import Derived.Test.YtncnildpbccpaaaNums
namespace Go.Proofs.Ytncnildpbccpaaa
open Go.RowKit

/-- Words, written one by one. -/
def putsW : List UInt8 → List Nat → List UInt8
  | l, [] => l
  | l, n :: r => putsW (addTo l (word n)) r

theorem putsW_le (l : List UInt8) (ns : List Nat) (h : l.length ≤ 65536) : (putsW l ns).length ≤ 65536 := by
  induction ns generalizing l with
  | nil => exact h
  | cons n r ih => exact ih _ (addTo_le _ _ h)

theorem putsW_in (l : List UInt8) (ns : List Nat) (k : Nat) (hk : k < ns.length) : putsW l (ns.drop k) = putsW (addTo l (word (ns.getD k 0))) (ns.drop (k + 1)) := by
  have e : ns.drop k = ns[k] :: ns.drop (k + 1) := List.drop_eq_getElem_cons hk
  have g : ns.getD k 0 = ns[k] := by rw [List.getD_eq_getElem?_getD, List.getElem?_eq_getElem hk]; rfl
  rw [e, g]
  rfl

/-- Words in a row of their own. -/
def WordRow (ns : List Nat) (r : Nat) (w : World) : Prop := ∃ cs : Array Value, w.heap[r]? = some (.cells cs 74 (0, 0)) ∧ ∀ i, i < ns.length → cs[i]? = some (.int .u32 (ns.getD i 0 : Int)) ∧ ns.getD i 0 < 4294967296

theorem WordRow.at {ns : List Nat} {r base b : Nat} {w w' : World} (h : WordRow ns r w) (hk : Kp base b w w') (hr : r ≠ b) (i : Nat) (hi : i < ns.length) : w'.cell? ⟨r, i, none⟩ = some (.int .u32 (ns.getD i 0 : Int)) ∧ ns.getD i 0 < 4294967296 := by
  obtain ⟨cs, h1, h2⟩ := h
  have h3 := hk.spare r cs _ h1 hr (by decide)
  refine ⟨?_, (h2 i hi).2⟩
  simp only [World.cell?, h3]
  exact (h2 i hi).1

set_option maxHeartbeats 400000 in
theorem Done_nil (w : World) :
    Calls Try.prog 18 #[.pointer none] w fun e w' => e = .returned (.tuple #[.string ⟨#[]⟩, .int .i64 1]) ∧ w = w' := by
  go_enter Try.func18, Try.ntmps18
  go_wp2
  go_ret2
  exact ⟨rfl, rfl⟩

set_option maxHeartbeats 400000 in
theorem Done_bad (base b : Nat) (w : World) (h : Bad base b w) :
    Calls Try.prog 18 #[.pointer (some ⟨b, 0, none⟩)] w fun e w' => e = .returned (.tuple #[.string ⟨#[]⟩, .int .i64 1]) ∧ w = w' := by
  have c0 : w.cell? ⟨b, 0, none⟩ = some (.bool true) := by simp [World.cell?, h.cells]
  go_enter Try.func18, Try.ntmps18
  go_wp2
  go_ret2
  exact ⟨rfl, rfl⟩

set_option maxHeartbeats 400000 in
theorem Done_long (base b : Nat) (l : List UInt8) (w : World) (h : Wr base b l w) (hl : 65535 < l.length) (hl2 : l.length ≤ 65536) :
    Calls Try.prog 18 #[.pointer (some ⟨b, 0, none⟩)] w fun e w' => e = .returned (.tuple #[.string ⟨#[]⟩, .int .i64 5]) ∧ w = w' := by
  obtain ⟨c0, f0, f1, ao, cp, c1⟩ := h.cell0
  go_enter Try.func18, Try.ntmps18
  go_wp2
  go_ret2
  exact ⟨rfl, rfl⟩

theorem Buf.text {base : Nat} {ao : Option Addr} {cap : Nat} {l : List UInt8} {w : World} (h : Buf base ao cap l w) :
    (convert 42 9 (.slice ao l.length cap)).run Try.prog w = .ok (.string ⟨l.toArray⟩) w := by
  rcases h.2 with ⟨hv, h0⟩ | ⟨g, cap', cur, hv, _, hg, hr⟩
  · obtain rfl : l = [] := List.length_eq_zero_iff.1 h0
    rw [hv]
    rfl
  · have hao : ao = some ⟨g, 0, none⟩ := by simpa using congrArg (fun v => match v with | .slice a _ _ => a | _ => none) hv
    subst hao
    refine run_convert_bytes_back (P := Try.prog) w 42 9 5 ⟨g, 0, none⟩ cap l Try.underlying42 Try.underlying5 Try.underlying9 (fun j hj => ?_)
    have := World.ownsRow.cells h (g := g) rfl j (.int .u8 (l[j].toNat : Int)) (by unfold bytesV; rw [List.getElem?_map, List.getElem?_eq_getElem hj]; rfl)
    exact this

set_option maxHeartbeats 400000 in
theorem Done_any (base b : Nat) (l : List UInt8) (w : World) (h : Wr base b l w) (hl : l.length ≤ 65535) :
    Calls Try.prog 18 #[.pointer (some ⟨b, 0, none⟩)] w fun e w' => e = .returned (.tuple #[.string ⟨l.toArray⟩, .int .i64 0]) ∧ w = w' := by
  obtain ⟨hlow, ao, cap, hcell, hbuf⟩ := h
  have c0 : w.cell? ⟨b, 0, none⟩ = some (.bool false) := by simp [World.cell?, hcell]
  have c1 : w.cell? ⟨b, 1, none⟩ = some (.slice ao l.length cap) := by simp [World.cell?, hcell]
  have hcv := hbuf.text
  clear hcell hbuf
  obtain ⟨s, hs⟩ : ∃ s : ByteArray, s = ⟨l.toArray⟩ := ⟨_, rfl⟩
  rw [← hs] at hcv ⊢
  clear hs
  go_enter Try.func18, Try.ntmps18
  go_wp2
  go_ret2
  exact ⟨rfl, rfl⟩

/-- A new writer. -/
theorem Wr.new (w : World) : Wr w.heap.size w.heap.size [] (w.alloc (.cells #[.bool false, .slice none 0 0] 44)) :=
  ⟨Nat.le_refl _, none, 0, heap_alloc_new w _, World.ownsRow_nil _ _ _ _⟩

#print axioms Done_any
end Go.Proofs.Ytncnildpbccpaaa
