/- The walks of words that a writer is handed, and of what it says at the end. -/
import Derived.Test.YtohemlejceiojaaNums
namespace Go.Proofs.Ytohemlejceiojaa
open Go.RowKit

/-- Words, written one by one. -/
def putsW : List UInt8 → List Nat → List UInt8
  | l, [] => l
  | l, n :: r => putsW (addTo l (word n)) r

theorem putsW_le (l : List UInt8) (ns : List Nat) (h : l.length ≤ 65536) : (putsW l ns).length ≤ 65536 := by
  induction ns generalizing l with
  | nil => exact h
  | cons n r ih => exact ih _ (addTo_le _ _ h)

theorem putsW_in (l : List UInt8) (ns : List Nat) (k : Nat) (hk : k < ns.length) : putsW l (ns.drop k) = putsW (addTo l (word (ns.getD k 0))) (ns.drop (k + 1)) := by
  have e : ns.drop k = ns[k] :: ns.drop (k + 1) := List.drop_eq_getElem_cons hk
  have g : ns.getD k 0 = ns[k] := by rw [List.getD_eq_getElem?_getD, List.getElem?_eq_getElem hk]; rfl
  rw [e, g]
  rfl

/-- Words in a row of their own. -/
def WordRow (ns : List Nat) (r : Nat) (w : World) : Prop := ∃ cs : Array Value, w.heap[r]? = some (.cells cs 22 (0, 0)) ∧ ∀ i, i < ns.length → cs[i]? = some (.int .u32 (ns.getD i 0 : Int)) ∧ ns.getD i 0 < 4294967296

theorem WordRow.at {ns : List Nat} {r base b : Nat} {w w' : World} (h : WordRow ns r w) (hk : Kp base b w w') (hr : r ≠ b) (i : Nat) (hi : i < ns.length) : w'.cell? ⟨r, i, none⟩ = some (.int .u32 (ns.getD i 0 : Int)) ∧ ns.getD i 0 < 4294967296 := by
  obtain ⟨cs, h1, h2⟩ := h
  have h3 := hk.spare r cs _ h1 hr (by decide)
  refine ⟨?_, (h2 i hi).2⟩
  simp only [World.cell?, h3]
  exact (h2 i hi).1

set_option maxHeartbeats 1000000 in
theorem Word_any (base b r cap : Nat) (l : List UInt8) (ns : List Nat) (w : World) (h : Wr base b l w) (hl : l.length ≤ 65536) (hrow : WordRow ns r w) (hr : r ≠ b) (hns : ns.length ≤ 1000) :
    Calls Try.prog 24 #[.pointer (some ⟨b, 0, none⟩), .slice (some ⟨r, 0, none⟩) ns.length cap] w fun e w' =>
      e = .returned (.pointer (some ⟨b, 0, none⟩)) ∧ Wr base b (putsW l ns) w' ∧ Kp base b w w' := by
  obtain ⟨c0, f0, f1, ao, cp, c1⟩ := h.cell0
  have Hrow := Lib.hid hrow
  clear hrow
  go_enter Try.func24, Try.ntmps24
  go_wp2
  clear c0 f0 f1 c1
  go_loopw [19] (fun i wr => ∃ (k : Nat) (m : List UInt8), k ≤ ns.length ∧ i = .int .i64 k ∧ Wr base b m wr ∧ m.length ≤ 65536 ∧ putsW l ns = putsW m (ns.drop k) ∧ Kp base b w wr)
    (fun i _ => ns.length - (intOf i).toNat)
  case atStart => exact ⟨0, l, Nat.zero_le _, rfl, h, hl, by rw [List.drop_zero], Kp.refl _ _ _⟩
  case round =>
    obtain ⟨k, m, hk, rfl, hwr, hm, hp, hkp⟩ := hrel
    have Hp := Lib.hid hp
    clear hp
    by_cases hlt : k < ns.length
    · obtain ⟨hc, hn⟩ := Hrow.out.at hkp hr k hlt
      have Hq := Lib.hid (putsW_in m ns k hlt)
      generalize ns.getD k 0 = n at *
      go_wp2_with fail
      refine (number_4 base b m n _ hwr hm hn).mono ?_
      rintro e w2 ⟨rfl, hw2, hk2⟩
      go_wp2
      go_roundw
      case rel => exact ⟨k + 1, addTo m (word n), by omega, by go_num, hw2, addTo_le _ _ hm, by rw [Hp.out, Hq.out], hkp.trans hk2⟩
      case measure => simp [intOf]; omega
    · have hd : ns.drop k = [] := List.drop_eq_nil_of_le (by omega)
      have Hd := Lib.hid hd
      clear hd
      go_wp2
      go_ret
      exact ⟨rfl, by rw [Hp.out, Hd.out]; exact hwr, hkp⟩

set_option maxHeartbeats 400000 in
theorem Word_bad (base b : Nat) (v : Value) (w : World) (h : Bad base b w) :
    Calls Try.prog 24 #[.pointer (some ⟨b, 0, none⟩), v] w fun e w' => e = .returned (.pointer (some ⟨b, 0, none⟩)) ∧ w = w' := by
  have c0 : w.cell? ⟨b, 0, none⟩ = some (.bool true) := by simp [World.cell?, h.cells]
  go_enter Try.func24, Try.ntmps24
  go_wp2
  go_ret
  exact ⟨rfl, rfl⟩

set_option maxHeartbeats 400000 in
theorem Done_nil (w : World) :
    Calls Try.prog 15 #[.pointer none] w fun e w' => e = .returned (.tuple #[.string ⟨#[]⟩, .int .i64 1]) ∧ w = w' := by
  go_enter Try.func15, Try.ntmps15
  go_wp2
  go_ret2
  exact ⟨rfl, rfl⟩

set_option maxHeartbeats 400000 in
theorem Done_bad (base b : Nat) (w : World) (h : Bad base b w) :
    Calls Try.prog 15 #[.pointer (some ⟨b, 0, none⟩)] w fun e w' => e = .returned (.tuple #[.string ⟨#[]⟩, .int .i64 1]) ∧ w = w' := by
  have c0 : w.cell? ⟨b, 0, none⟩ = some (.bool true) := by simp [World.cell?, h.cells]
  go_enter Try.func15, Try.ntmps15
  go_wp2
  go_ret2
  exact ⟨rfl, rfl⟩

set_option maxHeartbeats 400000 in
theorem Done_long (base b : Nat) (l : List UInt8) (w : World) (h : Wr base b l w) (hl : 65535 < l.length) (hl2 : l.length ≤ 65536) :
    Calls Try.prog 15 #[.pointer (some ⟨b, 0, none⟩)] w fun e w' => e = .returned (.tuple #[.string ⟨#[]⟩, .int .i64 5]) ∧ w = w' := by
  obtain ⟨c0, f0, f1, ao, cp, c1⟩ := h.cell0
  go_enter Try.func15, Try.ntmps15
  go_wp2
  go_ret2
  exact ⟨rfl, rfl⟩

theorem Buf.text {base : Nat} {ao : Option Addr} {cap : Nat} {l : List UInt8} {w : World} (h : Buf base ao cap l w) :
    (convert 35 9 (.slice ao l.length cap)).run Try.prog w = .ok (.string ⟨l.toArray⟩) w := by
  rcases h.2 with ⟨hv, h0⟩ | ⟨g, cap', cur, hv, _, hg, hr⟩
  · obtain rfl : l = [] := List.length_eq_zero_iff.1 h0
    rw [hv]
    rfl
  · have hao : ao = some ⟨g, 0, none⟩ := by simpa using congrArg (fun v => match v with | .slice a _ _ => a | _ => none) hv
    subst hao
    refine run_convert_bytes_back (P := Try.prog) w 35 9 5 ⟨g, 0, none⟩ cap l Try.underlying35 Try.underlying5 Try.underlying9 (fun j hj => ?_)
    have := World.ownsRow.cells h (g := g) rfl j (.int .u8 (l[j].toNat : Int)) (by unfold bytesV; rw [List.getElem?_map, List.getElem?_eq_getElem hj]; rfl)
    exact this

set_option maxHeartbeats 400000 in
theorem Done_any (base b : Nat) (l : List UInt8) (w : World) (h : Wr base b l w) (hl : l.length ≤ 65535) :
    Calls Try.prog 15 #[.pointer (some ⟨b, 0, none⟩)] w fun e w' => e = .returned (.tuple #[.string ⟨l.toArray⟩, .int .i64 0]) ∧ w = w' := by
  obtain ⟨hlow, ao, cap, hcell, hbuf⟩ := h
  have c0 : w.cell? ⟨b, 0, none⟩ = some (.bool false) := by simp [World.cell?, hcell]
  have c1 : w.cell? ⟨b, 1, none⟩ = some (.slice ao l.length cap) := by simp [World.cell?, hcell]
  have hcv := hbuf.text
  clear hcell hbuf
  obtain ⟨s, hs⟩ : ∃ s : ByteArray, s = ⟨l.toArray⟩ := ⟨_, rfl⟩
  rw [← hs] at hcv ⊢
  clear hs
  go_enter Try.func15, Try.ntmps15
  go_wp2
  go_ret2
  exact ⟨rfl, rfl⟩

/-- A new writer. -/
theorem Wr.new (w : World) : Wr w.heap.size w.heap.size [] (w.alloc (.cells #[.bool false, .slice none 0 0] 43)) :=
  ⟨Nat.le_refl _, none, 0, heap_alloc_new w _, World.ownsRow_nil _ _ _ _⟩

#print axioms Done_any
#print axioms Word_any
end Go.Proofs.Ytohemlejceiojaa
