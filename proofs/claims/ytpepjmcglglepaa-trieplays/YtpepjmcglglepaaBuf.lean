/- A row of bytes that a call owns, and a text's bytes appended to it. No program is named here. -/
import Derived.WalkKit
import Derived.WalkSmall
import Derived.Lib.Hide
import Derived.Deep.AppendSrc
namespace Go.Proofs.Ytpepjmcglglepaa
open Go.RowKit

section
variable {P : Program} (w : World)

theorem append_room_row (t tx ty e : TypeId) (i : TypeInfo) (ht : P.underlying t = some (.slice e)) (hi : P.info? e = some i) (g sLen sCap : Nat) (cur : Array Value) (hg : w.heap[g]? = some (.cells cur e (0, 0)))
    (x : Value) (n : Nat) (news : List Value) (hs : Src P i.size tx x n news w) (hroom : sLen + n ≤ sCap) (hfit : sLen * i.size + news.length ≤ cur.size) :
    (Builtin.append_ #[t, tx] ty #[.slice (some ⟨g, 0, none⟩) sLen sCap, x]).run P w =
      .ok (.slice (some ⟨g, 0, none⟩) (sLen + n) sCap) (w.setRow g (cur.toList.take (sLen * i.size) ++ news ++ cur.toList.drop (sLen * i.size + news.length)).toArray) := by
  have hst := run_storeCells_at P g (sLen * i.size) e news 0 cur w hg (by simpa using hfit) hs.one
  simp only [Nat.add_zero] at hst
  rcases hs.kind with ⟨e', hk⟩ | hk <;> simp [Builtin.append_, run_underlying ht, run_underlying hk, sizeOf, typeInfo, hi, hs.len, hroom, hs.cells, Addr.add_lit, hst]

/-- A new row, made of what was there and what is appended: the call owns it. -/
theorem own_new (base : Nat) (e : TypeId) (z : Value) (size n m cap : Nat) (ks : List Value) (hk : ks.length = (n + m) * size) (hzs : z.cells.size = size) (hge : n + m ≤ cap) (hcm : cap ≤ maxLen) (hbase : base ≤ w.heap.size) (row : Option Nat) :
    (w.drew.alloc (.cells (ks.toArray ++ Builtin.zeroCells z.cells (cap - (n + m))) e)).ownsRow base e size (.slice (some ⟨w.heap.size, 0, none⟩) (n + m) cap) (n + m) ks ∧
      w.grownBy (w.drew.alloc (.cells (ks.toArray ++ Builtin.zeroCells z.cells (cap - (n + m))) e)) row := by
  have hz : (ks.toArray ++ Builtin.zeroCells z.cells (cap - (n + m))).size = cap * size := by
    rw [Array.size_append, List.size_toArray, size_zeroCells, hzs, hk, ← Nat.add_mul, Nat.add_sub_cancel' hge]
  have ht : (ks.toArray ++ Builtin.zeroCells z.cells (cap - (n + m))).toList.take ((n + m) * size) = ks := by
    rw [Array.toList_append, ← hk]; exact List.take_left
  exact ⟨⟨hk, .inr ⟨_, cap, _, rfl, hbase, heap_alloc_new w.drew _, hge, hcm, hz, ht⟩⟩, ⟨rfl, rfl, rfl, by simp, fun k hk _ => Below.heap_alloc w.drew _ k hk⟩⟩

/-- An append to a row that the call owns, of whatever source: the new value owns all of it. -/
theorem append_own_src (base : Nat) (t tx ty e : TypeId) (i : TypeInfo) (z : Value) (ht : P.underlying t = some (.slice e)) (hi : P.info? e = some i) (hz : i.zero = some z)
    (hzs : z.cells.size = i.size) (v : Value) (n : Nat) (xs : List Value) (hown : w.ownsRow base e i.size v n xs)
    (x : Value) (m : Nat) (news : List Value) (hs : Src P i.size tx x m news w)
    (hmax : n + m ≤ maxLen) (hbytes : (n + m) * i.bytes ≤ 140737488355328) (hbase : base ≤ w.heap.size) :
    ∃ v' w', (Builtin.append_ #[t, tx] ty #[v, x]).run P w = .ok v' w' ∧ w'.ownsRow base e i.size v' (n + m) (xs ++ news) ∧ w.grownBy w' v.ownBlock := by
  have hk : (xs ++ news).length = (n + m) * i.size := by rw [List.length_append, hown.1, hs.newsLen, Nat.add_mul]
  have hint : ((n + m : Nat) : Int) ≤ 9223372036854775807 := by simp only [maxLen] at hmax; omega
  -- the ways that lay a new row
  have grow : ∀ (ao : Option Addr) (cap : Nat), cap < n + m → v = .slice ao n cap → (Builtin.firstCells i.size n (.slice ao n cap)).run P w.drew = .ok xs.toArray w.drew →
      ∃ v' w', (Builtin.append_ #[t, tx] ty #[v, x]).run P w = .ok v' w' ∧ w'.ownsRow base e i.size v' (n + m) (xs ++ news) ∧ w.grownBy w' v.ownBlock := by
    rintro ao cap hlt rfl hold
    obtain ⟨h1, h2⟩ := own_new w base e z i.size n m (grownCap w (n + m) cap e) (xs ++ news) hk hzs (grownCap_ge w (n + m) cap e) (grownCap_le_maxLen w (n + m) cap e hmax) hbase (Value.ownBlock (.slice ao n cap))
    exact ⟨_, _, run_append_grow_src (P := P) w t tx ty e i z ht hi hz ao n cap xs hold x m news hs hlt hint (growslice_fits hlt hbytes), h1, h2⟩
  rcases hown.2 with ⟨hv, h0⟩ | ⟨g, cap, cur, hv, hbg, hg, hnc, hcm, hcs, htake⟩
  · have hx : xs = [] := List.eq_nil_of_length_eq_zero (by rw [hown.1, h0, Nat.zero_mul])
    subst hx h0
    rcases Nat.eq_zero_or_pos m with hm | hm
    · subst hm hv
      have hn : news = [] := List.eq_nil_of_length_eq_zero (by rw [hs.newsLen, Nat.zero_mul])
      subst hn
      refine ⟨.slice none 0 0, w, ?_, World.ownsRow_nil w base e i.size, ⟨rfl, rfl, rfl, Nat.le_refl _, fun _ _ _ => rfl⟩⟩
      have hc := hs.cells
      have hn := hs.len
      rcases hs.kind with ⟨e', hk⟩ | hk <;> simp [Builtin.append_, run_underlying ht, run_underlying hk, sizeOf, typeInfo, hi, hn, hc]
    · exact grow none 0 (by omega) hv (run_firstCells_none (P := P) w.drew i.size 0 0 0)
  · by_cases hroom : n + m ≤ cap
    · subst hv
      have hnl := hs.newsLen
      have hfit : n * i.size + news.length ≤ cur.size := by rw [hnl, hcs, ← Nat.add_mul]; exact Nat.mul_le_mul_right _ hroom
      refine ⟨_, _, append_room_row (P := P) w t tx ty e i ht hi g n cap cur hg x m news hs hroom hfit, ⟨hk, .inr ⟨g, cap, _, rfl, hbg, setRow_heap w g cur _ e _ hg, hroom, hcm, ?_, ?_⟩⟩, ⟨rfl, rfl, rfl, by simp, fun k _ hne => setRow_other w g k _ (fun h => hne (by simp [Value.ownBlock, h]))⟩⟩
      · simp only [List.size_toArray, List.length_append, List.length_take, List.length_drop, Array.length_toList]
        omega
      · rw [htake, ← hk]
        exact List.take_left
    · exact grow (some ⟨g, 0, none⟩) cap (by omega) hv (run_firstCells_some (P := P) w.drew i.size n ⟨g, 0, none⟩ n cap xs hown.1 (hown.cells (g := g) (by rw [hv]; rfl)))
end

/-- Bytes, as a row's cells. -/
def bytesV (l : List UInt8) : List Value := l.map fun b => Value.int .u8 (b.toNat : Int)

theorem bytesV_append (l m : List UInt8) : bytesV (l ++ m) = bytesV l ++ bytesV m := List.map_append
theorem bytesV_length (l : List UInt8) : (bytesV l).length = l.length := List.length_map _

/-- A row of bytes that the call owns, from block 'base' on. -/
def Buf (base : Nat) (ao : Option Addr) (cap : Nat) (l : List UInt8) (w : World) : Prop := w.ownsRow base 5 1 (.slice ao l.length cap) l.length (bytesV l)

end Go.Proofs.Ytpepjmcglglepaa
