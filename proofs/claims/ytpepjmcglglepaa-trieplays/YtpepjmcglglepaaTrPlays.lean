/- TriePlays, walked whole. -/
import Derived.Test.YtpepjmcglglepaaTrAll
import Derived.Test.YtpepjmcglglepaaTrActs
import Derived.Test.YtpepjmcglglepaaTrAny
import Derived.Test.YtpepjmcglglepaaTrRFind
import Derived.Test.YtpepjmcglglepaaTrRNodes
import Derived.Test.YtpepjmcglglepaaTrFind2
import Derived.Test.YtpepjmcglglepaaTrRef
import Derived.Deep.CutBlock
namespace Go.Proofs.Ytpepjmcglglepaa
open Go.RowKit
set_option maxRecDepth 100000
set_option linter.unusedVariables false
open R

theorem Own.mono {B base : Nat} {e : TypeId} {size : Nat} {ao : Option Addr} {cap n : Nat} {xs : List Value} {w : World} (h : Own base e size ao cap n xs w) (hb : B ≤ base) : Own B e size ao cap n xs w := by
  rcases h with ⟨h1, ⟨h2, h3⟩ | ⟨g, cap', cur, hv, hbg, rest⟩⟩
  · exact ⟨h1, .inl ⟨h2, h3⟩⟩
  · exact ⟨h1, .inr ⟨g, cap', cur, hv, Nat.le_trans hb hbg, rest⟩⟩
theorem Own.room {base : Nat} {e : TypeId} {size : Nat} {ao : Option Addr} {cap n : Nat} {xs : List Value} {w : World} (h : Own base e size ao cap n xs w) : n ≤ cap := by
  rcases h with ⟨h1, ⟨h2, h3⟩ | ⟨g, cap', cur, hv, hbg, hg, hnc, _⟩⟩
  · omega
  · have : cap = cap' := by simpa using congrArg (fun v => match v with | .slice _ _ c => c | _ => 0) hv
    omega
theorem Lies.ch {X : Nat → Prop} {w w' : World} {b off : Nat} {vs : List Value} (h : Lies w b off vs) (hc : Ch X w w') (hX : ¬ X b) : Lies w' b off vs :=
  ⟨Nat.lt_of_lt_of_le h.lt hc.size, fun k v hv => hc.cell (h.at_ k v hv) hX⟩
/-- Where the play stands: a trie, and the routes that are there, in a row. -/
structure PS (w0 wr : World) (g i : Nat) (st : St) (rs : List Rt) (ro : Option Addr) (rc : Nat) (X : Nat → Prop) : Prop where
  own : Own' w0.heap.size X wr g st
  row : RtOwn w0.heap.size ro rc rs wr
  apart : ∀ q, Value.ownBlock (.slice ro rs.length rc) = some q → ¬ X q
  inv : Inv st rs
  len : rs.length ≤ i
  nodes : st.nodes.length ≤ 1 + 32 * i
  bel : Below w0.heap.size w0 wr
section
variable {w0 wr w' : World} {g i j : Nat} {st st' : St} {rs rs' : List Rt} {ro : Option Addr} {rc : Nat} {X : Nat → Prop}
theorem PS.below (h : PS w0 wr g i st rs ro rc X) (hb : Below wr.heap.size wr w') : PS w0 w' g i st rs ro rc X :=
  ⟨⟨h.own.at'.below hb, fun q hq => Nat.lt_of_lt_of_le (h.own.lt q hq) hb.size, h.own.low⟩, Own.carry h.row hb, h.apart, h.inv, h.len, h.nodes, h.bel.trans (hb.mono h.bel.size)⟩
theorem PS.later (h : PS w0 wr g i st rs ro rc X) (hij : i ≤ j) : PS w0 wr g j st rs ro rc X :=
  ⟨h.own, h.row, h.apart, h.inv, by have := h.len; omega, by have := h.nodes; omega, h.bel⟩
theorem PS.turn (h : PS w0 wr g i st rs ro rc X) (hc : Ch X wr w') (hT : TrieAt (Up X wr w') w' g st') : Own' w0.heap.size (Up X wr w') w' g st' ∧ RtOwn w0.heap.size ro rc rs w' ∧ (∀ q, Value.ownBlock (.slice ro rs.length rc) = some q → ¬ Up X wr w' q) ∧ Below w0.heap.size w0 w' := by
  refine ⟨⟨hT, Up.lt h.own.lt hc.size, Up.base h.own.low h.bel.size⟩, hc.own h.row fun q hq => h.apart q hq, fun q hq hu => ?_, h.bel.trans (hc.below h.own.low h.bel.size)⟩
  rcases hu with hu | hu
  · exact h.apart q hq hu
  · have := (World.ownsRow.lt h.row q hq).2
    omega
theorem PS.same (h : PS w0 wr g i st rs ro rc X) (hc : Ch X wr w') (hT : TrieAt (Up X wr w') w' g st') (hI : Inv st' rs) (hn : st'.nodes.length ≤ st.nodes.length + 32) : PS w0 w' g (i + 1) st' rs ro rc (Up X wr w') := by
  obtain ⟨h1, h2, h3, h4⟩ := h.turn hc hT
  exact ⟨h1, h2, h3, hI, by have := h.len; omega, by have := h.nodes; omega, h4⟩
theorem PS.app (h : PS w0 wr g i st rs ro rc X) (hc : Ch X wr w') (hT : TrieAt (Up X wr w') w' g st') (r : Rt) (hI : Inv st' (rs ++ [r])) (hn : st'.nodes.length ≤ st.nodes.length + 32) (hi : i ≤ 1000) :
    ∃ ro' rc' w5, (Builtin.append_ #[26, 26] 26 #[.slice ro rs.length rc, .slice (some ⟨w'.heap.size, 0, none⟩) 1 1]).run Try.prog (w'.alloc (.cells #[.int .u32 r.a, .int .i64 r.b, .int .i64 r.o] 31)) = .ok (.slice ro' (rs.length + 1) rc') w5 ∧ PS w0 w5 g (i + 1) st' (rs ++ [r]) ro' rc' (Up X wr w') := by
  obtain ⟨h1, h2, h3, h4⟩ := h.turn hc hT
  have hl := h.len
  obtain ⟨ro', rc', w5, hrun, hR5, hc5, hn5⟩ := append_route w0.heap.size ro rc rs r w' h2 (by omega) h4.size
  refine ⟨ro', rc', w5, hrun, h1.ch hc5 (fun q hq hx => h3 q hx hq), hR5, fun q hq hu => ?_, hI, by simp; omega, by have := h.nodes; omega, h4.trans (hc5.below (fun q hq => (World.ownsRow.lt h2 q hq).1) h4.size)⟩
  rw [show (rs ++ [r]).length = rs.length + 1 by simp] at hq
  rcases hn5 q hq with hx | hx
  · exact h3 q hx hu
  · have := h1.lt q hu
    omega
theorem PS.cut (h : PS w0 wr g i st rs ro rc X) (hc : Ch X wr w') (hT : TrieAt (Up X wr w') w' g st') (hI : Inv st' rs') (hn : st'.nodes.length ≤ st.nodes.length) {ro' : Option Addr} {rc' : Nat} {w'' : World} (hR : RtOwn w'.heap.size ro' rc' rs' w'') (hb : Below w'.heap.size w' w'') (hl : rs'.length ≤ rs.length) : PS w0 w'' g (i + 1) st' rs' ro' rc' (Up X wr w') := by
  obtain ⟨h1, h2, h3, h4⟩ := h.turn hc hT
  refine ⟨⟨h1.at'.below hb, fun q hq => Nat.lt_of_lt_of_le (h1.lt q hq) hb.size, h1.low⟩, Own.mono hR h4.size, fun q hq hu => ?_, hI, by have := h.len; omega, by have := h.nodes; omega, h4.trans (hb.mono h4.size)⟩
  have := Own.low hR q hq
  have := h1.lt q hu
  omega
end
theorem inv_bits {st : St} {rs : List Rt} (hI : Inv st rs) : ∀ r ∈ rs, r.a < 4294967296 ∧ 0 ≤ r.b ∧ r.b ≤ 32 := fun r hr => by
  obtain ⟨h1, h2⟩ := inv_right hI r hr
  have := (right_bits h1)
  exact ⟨h2, by omega, by omega⟩
theorem RtRow.lies {w : World} {ao : Option Addr} {l : List Rt} (h : RtRow w ao l) (k : Nat) (hk : k < l.length) : ∃ b off, ao = some ⟨b, off, none⟩ ∧ Lies w b (off + k * 3) (l.getD k zR).v := by
  obtain ⟨b, off, h1, h2, h3⟩ := h (by omega)
  exact ⟨b, off, h1, h2, fun j v hv => h3 k hk j v hv⟩

theorem getD_of {l : List Rt} {r : Rt} (h : r ∈ l) : ∃ j, j < l.length ∧ l.getD j zR = r := by
  obtain ⟨j, hj, e⟩ := List.mem_iff_getElem.1 h
  exact ⟨j, hj, by rw [List.getD_eq_getElem?_getD, List.getElem?_eq_getElem hj]; exact e⟩
theorem find_meets {st : St} {rs : List Rt} (hI : Inv st rs) {a : Nat} {r : Rt} {ok : Bool} {z : Int} (hf : IsFind rs a r ok) (hz : R.IsBest rs a rs.length z) :
    (ok = true ∧ ∃ k : Nat, k < rs.length ∧ z = k ∧ rs.getD k zR = r) ∨ (ok = false ∧ z = -1 ∧ r = zR) := by
  rcases hz with ⟨hz, h⟩ | ⟨m, hm, hz, h1, h2⟩
  · have k : IsFind rs a zR false := ⟨fun h => (by cases h), fun _ => ⟨rfl, fun s hs => by
      obtain ⟨j, hj, e⟩ := getD_of hs
      rw [← e]
      exact h j hj⟩⟩
    obtain ⟨e1, e2⟩ := find_same hI (fun _ => Iff.rfl) hf k
    exact .inr ⟨e2, hz, e1⟩
  · have k : IsFind rs a (rs.getD m zR) true := ⟨fun _ => ⟨getD_mem rs m hm, h1, fun s hs ht => by
      obtain ⟨j, hj, e⟩ := getD_of hs
      rw [← e] at ht ⊢
      exact h2 j hj ht⟩, fun h => (by cases h)⟩
    obtain ⟨e1, e2⟩ := find_same hI (fun _ => Iff.rfl) hf k
    exact .inl ⟨e2, m, hm, hz, e1.symm⟩
theorem get_meets {st : St} {rs : List Rt} (hI : Inv st rs) {a : Nat} {b : Int} {r : Rt} {ok : Bool} {z : Int} (hf : IsGet rs a b r ok) (hz : R.IsIx (fun s => s.a = a ∧ s.b = b) rs z) :
    (ok = true ∧ ∃ k : Nat, k < rs.length ∧ z = k ∧ rs.getD k zR = r) ∨ (ok = false ∧ z = -1 ∧ r = zR) := by
  obtain ⟨pl, hR, _⟩ := hI
  cases ok
  · obtain ⟨h1, h2⟩ := hf.no rfl
    rcases hz with ⟨hz, h⟩ | ⟨k, hk, hz, h⟩
    · exact .inr ⟨rfl, hz, h1⟩
    · exact absurd h (h2 _ (getD_mem rs k hk))
  · obtain ⟨h1, h2, h3⟩ := hf.yes rfl
    rcases hz with ⟨hz, h⟩ | ⟨k, hk, hz, h⟩
    · obtain ⟨j, hj, e⟩ := getD_of h1
      exact absurd (by rw [e]; exact ⟨h2, h3⟩) (h j hj)
    · exact .inl ⟨rfl, k, hk, hz, hR.one (getD_mem rs k hk) h1 (h.1.trans h2.symm) (h.2.trans h3.symm)⟩
theorem RtRow.all {w : World} {ao : Option Addr} {l : List Rt} (h : RtRow w ao l) (h0 : 0 < l.length) : ∃ b off, ao = some ⟨b, off, none⟩ ∧ ∀ k, k < l.length → Lies w b (off + k * 3) (l.getD k zR).v := by
  obtain ⟨b, off, h1, h2, h3⟩ := h h0
  exact ⟨b, off, h1, fun k hk => ⟨h2, fun j v hv => h3 k hk j v hv⟩⟩
theorem get_ix {rs : List Rt} {r : Rt} (hr : r ∈ rs) {z : Int} (hz : R.IsIx (fun s => s.a = r.a ∧ s.b = r.b) rs z) : ∃ k : Nat, z = k := by
  rcases hz with ⟨_, h⟩ | ⟨k, _, hz, _⟩
  · obtain ⟨j, hj, e⟩ := getD_of hr
    exact absurd (by rw [e]; exact ⟨rfl, rfl⟩) (h j hj)
  · exact ⟨k, hz⟩
theorem pw_getD {xs : List Rt} (h : xs.Pairwise Lt) {m j : Nat} (hm : m < j) (hj : j < xs.length) : Lt (xs.getD m zR) (xs.getD j zR) := by
  have := List.pairwise_iff_getElem.1 h m j (by omega) hj hm
  rw [List.getD_eq_getElem?_getD, List.getD_eq_getElem?_getD, List.getElem?_eq_getElem hj, List.getElem?_eq_getElem (show m < xs.length by omega)]
  exact this

theorem vs_24 (vs : List Value) (h : vs.length = 24) : ∃ v0 v1 v2 v3 v4 v5 v6 v7 v8 v9 v10 v11 v12 v13 v14 v15 v16 v17 v18 v19 v20 v21 v22 v23, vs = [v0, v1, v2, v3, v4, v5, v6, v7, v8, v9, v10, v11, v12, v13, v14, v15, v16, v17, v18, v19, v20, v21, v22, v23] := by
  obtain ⟨v0, r0, rfl, h0⟩ := vs_cons vs h
  obtain ⟨v1, r1, rfl, h1⟩ := vs_cons r0 h0
  obtain ⟨v2, r2, rfl, h2⟩ := vs_cons r1 h1
  obtain ⟨v3, r3, rfl, h3⟩ := vs_cons r2 h2
  obtain ⟨v4, r4, rfl, h4⟩ := vs_cons r3 h3
  obtain ⟨v5, r5, rfl, h5⟩ := vs_cons r4 h4
  obtain ⟨v6, r6, rfl, h6⟩ := vs_cons r5 h5
  obtain ⟨v7, r7, rfl, h7⟩ := vs_cons r6 h6
  obtain ⟨v8, r8, rfl, h8⟩ := vs_cons r7 h7
  obtain ⟨v9, r9, rfl, h9⟩ := vs_cons r8 h8
  obtain ⟨v10, r10, rfl, h10⟩ := vs_cons r9 h9
  obtain ⟨v11, r11, rfl, h11⟩ := vs_cons r10 h10
  obtain ⟨v12, r12, rfl, h12⟩ := vs_cons r11 h11
  obtain ⟨v13, r13, rfl, h13⟩ := vs_cons r12 h12
  obtain ⟨v14, r14, rfl, h14⟩ := vs_cons r13 h13
  obtain ⟨v15, r15, rfl, h15⟩ := vs_cons r14 h14
  obtain ⟨v16, r16, rfl, h16⟩ := vs_cons r15 h15
  obtain ⟨v17, r17, rfl, h17⟩ := vs_cons r16 h16
  obtain ⟨v18, r18, rfl, h18⟩ := vs_cons r17 h17
  obtain ⟨v19, r19, rfl, h19⟩ := vs_cons r18 h18
  obtain ⟨v20, r20, rfl, h20⟩ := vs_cons r19 h19
  obtain ⟨v21, r21, rfl, h21⟩ := vs_cons r20 h20
  obtain ⟨v22, r22, rfl, h22⟩ := vs_cons r21 h21
  obtain ⟨v23, r23, rfl, h23⟩ := vs_cons r22 h22
  obtain rfl := List.eq_nil_of_length_eq_zero h23
  exact ⟨v0, v1, v2, v3, v4, v5, v6, v7, v8, v9, v10, v11, v12, v13, v14, v15, v16, v17, v18, v19, v20, v21, v22, v23, rfl⟩
theorem vs_15 (vs : List Value) (h : vs.length = 15) : ∃ v0 v1 v2 v3 v4 v5 v6 v7 v8 v9 v10 v11 v12 v13 v14, vs = [v0, v1, v2, v3, v4, v5, v6, v7, v8, v9, v10, v11, v12, v13, v14] := by
  obtain ⟨v0, r0, rfl, h0⟩ := vs_cons vs h
  obtain ⟨v1, r1, rfl, h1⟩ := vs_cons r0 h0
  obtain ⟨v2, r2, rfl, h2⟩ := vs_cons r1 h1
  obtain ⟨v3, r3, rfl, h3⟩ := vs_cons r2 h2
  obtain ⟨v4, r4, rfl, h4⟩ := vs_cons r3 h3
  obtain ⟨v5, r5, rfl, h5⟩ := vs_cons r4 h4
  obtain ⟨v6, r6, rfl, h6⟩ := vs_cons r5 h5
  obtain ⟨v7, r7, rfl, h7⟩ := vs_cons r6 h6
  obtain ⟨v8, r8, rfl, h8⟩ := vs_cons r7 h7
  obtain ⟨v9, r9, rfl, h9⟩ := vs_cons r8 h8
  obtain ⟨v10, r10, rfl, h10⟩ := vs_cons r9 h9
  obtain ⟨v11, r11, rfl, h11⟩ := vs_cons r10 h10
  obtain ⟨v12, r12, rfl, h12⟩ := vs_cons r11 h11
  obtain ⟨v13, r13, rfl, h13⟩ := vs_cons r12 h12
  obtain ⟨v14, r14, rfl, h14⟩ := vs_cons r13 h13
  obtain rfl := List.eq_nil_of_length_eq_zero h14
  exact ⟨v0, v1, v2, v3, v4, v5, v6, v7, v8, v9, v10, v11, v12, v13, v14, rfl⟩
theorem vs_60 (vs : List Value) (h : vs.length = 60) : ∃ v0 v1 v2 v3 v4 v5 v6 v7 v8 v9 v10 v11 v12 v13 v14 v15 v16 v17 v18 v19 v20 v21 v22 v23 v24 v25 v26 v27 v28 v29 v30 v31 v32 v33 v34 v35 v36 v37 v38 v39 v40 v41 v42 v43 v44 v45 v46 v47 v48 v49 v50 v51 v52 v53 v54 v55 v56 v57 v58 v59, vs = [v0, v1, v2, v3, v4, v5, v6, v7, v8, v9, v10, v11, v12, v13, v14, v15, v16, v17, v18, v19, v20, v21, v22, v23, v24, v25, v26, v27, v28, v29, v30, v31, v32, v33, v34, v35, v36, v37, v38, v39, v40, v41, v42, v43, v44, v45, v46, v47, v48, v49, v50, v51, v52, v53, v54, v55, v56, v57, v58, v59] := by
  obtain ⟨v0, r0, rfl, h0⟩ := vs_cons vs h
  obtain ⟨v1, r1, rfl, h1⟩ := vs_cons r0 h0
  obtain ⟨v2, r2, rfl, h2⟩ := vs_cons r1 h1
  obtain ⟨v3, r3, rfl, h3⟩ := vs_cons r2 h2
  obtain ⟨v4, r4, rfl, h4⟩ := vs_cons r3 h3
  obtain ⟨v5, r5, rfl, h5⟩ := vs_cons r4 h4
  obtain ⟨v6, r6, rfl, h6⟩ := vs_cons r5 h5
  obtain ⟨v7, r7, rfl, h7⟩ := vs_cons r6 h6
  obtain ⟨v8, r8, rfl, h8⟩ := vs_cons r7 h7
  obtain ⟨v9, r9, rfl, h9⟩ := vs_cons r8 h8
  obtain ⟨v10, r10, rfl, h10⟩ := vs_cons r9 h9
  obtain ⟨v11, r11, rfl, h11⟩ := vs_cons r10 h10
  obtain ⟨v12, r12, rfl, h12⟩ := vs_cons r11 h11
  obtain ⟨v13, r13, rfl, h13⟩ := vs_cons r12 h12
  obtain ⟨v14, r14, rfl, h14⟩ := vs_cons r13 h13
  obtain ⟨v15, r15, rfl, h15⟩ := vs_cons r14 h14
  obtain ⟨v16, r16, rfl, h16⟩ := vs_cons r15 h15
  obtain ⟨v17, r17, rfl, h17⟩ := vs_cons r16 h16
  obtain ⟨v18, r18, rfl, h18⟩ := vs_cons r17 h17
  obtain ⟨v19, r19, rfl, h19⟩ := vs_cons r18 h18
  obtain ⟨v20, r20, rfl, h20⟩ := vs_cons r19 h19
  obtain ⟨v21, r21, rfl, h21⟩ := vs_cons r20 h20
  obtain ⟨v22, r22, rfl, h22⟩ := vs_cons r21 h21
  obtain ⟨v23, r23, rfl, h23⟩ := vs_cons r22 h22
  obtain ⟨v24, r24, rfl, h24⟩ := vs_cons r23 h23
  obtain ⟨v25, r25, rfl, h25⟩ := vs_cons r24 h24
  obtain ⟨v26, r26, rfl, h26⟩ := vs_cons r25 h25
  obtain ⟨v27, r27, rfl, h27⟩ := vs_cons r26 h26
  obtain ⟨v28, r28, rfl, h28⟩ := vs_cons r27 h27
  obtain ⟨v29, r29, rfl, h29⟩ := vs_cons r28 h28
  obtain ⟨v30, r30, rfl, h30⟩ := vs_cons r29 h29
  obtain ⟨v31, r31, rfl, h31⟩ := vs_cons r30 h30
  obtain ⟨v32, r32, rfl, h32⟩ := vs_cons r31 h31
  obtain ⟨v33, r33, rfl, h33⟩ := vs_cons r32 h32
  obtain ⟨v34, r34, rfl, h34⟩ := vs_cons r33 h33
  obtain ⟨v35, r35, rfl, h35⟩ := vs_cons r34 h34
  obtain ⟨v36, r36, rfl, h36⟩ := vs_cons r35 h35
  obtain ⟨v37, r37, rfl, h37⟩ := vs_cons r36 h36
  obtain ⟨v38, r38, rfl, h38⟩ := vs_cons r37 h37
  obtain ⟨v39, r39, rfl, h39⟩ := vs_cons r38 h38
  obtain ⟨v40, r40, rfl, h40⟩ := vs_cons r39 h39
  obtain ⟨v41, r41, rfl, h41⟩ := vs_cons r40 h40
  obtain ⟨v42, r42, rfl, h42⟩ := vs_cons r41 h41
  obtain ⟨v43, r43, rfl, h43⟩ := vs_cons r42 h42
  obtain ⟨v44, r44, rfl, h44⟩ := vs_cons r43 h43
  obtain ⟨v45, r45, rfl, h45⟩ := vs_cons r44 h44
  obtain ⟨v46, r46, rfl, h46⟩ := vs_cons r45 h45
  obtain ⟨v47, r47, rfl, h47⟩ := vs_cons r46 h46
  obtain ⟨v48, r48, rfl, h48⟩ := vs_cons r47 h47
  obtain ⟨v49, r49, rfl, h49⟩ := vs_cons r48 h48
  obtain ⟨v50, r50, rfl, h50⟩ := vs_cons r49 h49
  obtain ⟨v51, r51, rfl, h51⟩ := vs_cons r50 h50
  obtain ⟨v52, r52, rfl, h52⟩ := vs_cons r51 h51
  obtain ⟨v53, r53, rfl, h53⟩ := vs_cons r52 h52
  obtain ⟨v54, r54, rfl, h54⟩ := vs_cons r53 h53
  obtain ⟨v55, r55, rfl, h55⟩ := vs_cons r54 h54
  obtain ⟨v56, r56, rfl, h56⟩ := vs_cons r55 h55
  obtain ⟨v57, r57, rfl, h57⟩ := vs_cons r56 h56
  obtain ⟨v58, r58, rfl, h58⟩ := vs_cons r57 h57
  obtain ⟨v59, r59, rfl, h59⟩ := vs_cons r58 h58
  obtain rfl := List.eq_nil_of_length_eq_zero h59
  exact ⟨v0, v1, v2, v3, v4, v5, v6, v7, v8, v9, v10, v11, v12, v13, v14, v15, v16, v17, v18, v19, v20, v21, v22, v23, v24, v25, v26, v27, v28, v29, v30, v31, v32, v33, v34, v35, v36, v37, v38, v39, v40, v41, v42, v43, v44, v45, v46, v47, v48, v49, v50, v51, v52, v53, v54, v55, v56, v57, v58, v59, rfl⟩
set_option maxHeartbeats 16000000 in
theorem plays_law (a0 : Option Addr) (cap : Nat) (l : List At) (w : World) (h : AtRow w a0 l) (hok : ∀ x ∈ l, At.ok x) :
    Calls Try.prog 3 #[.slice a0 l.length cap] w fun e w' => e = .returned (.bool true) ∧ Below w.heap.size w w' := by
  by_cases h80 : 80 < l.length
  · have h80' : (80 : Int) < (l.length : Int) := by omega
    go_enter Try.func3, Try.ntmps3
    go_wp2_with fail
    refine (awake_any _).mono ?_
    rintro e w1 ⟨rfl, hb1⟩
    go_wp2
    go_ret
    exact ⟨rfl, hb1⟩
  have h80' : ¬ (80 : Int) < (l.length : Int) := by omega
  have hl80 : l.length ≤ 80 := by omega
  have HRow := Lib.hid h
  have HOk := Lib.hid hok
  clear h hok h80
  go_enter Try.func3, Try.ntmps3
  go_wp2_with fail
  refine (awake_any _).mono ?_
  rintro e w1 ⟨rfl, hb1⟩
  go_wp2_with fail
  refine (New_any w1).mono ?_
  rintro e w2 ⟨g, rfl, hT2, hb2⟩
  have hs1 := hb1.size
  have HP2 : Hid (PS w w2 g 0 st0 [] none 0 (fun k => w1.heap.size ≤ k ∧ k < w2.heap.size)) := Lib.hid ⟨⟨hT2, fun q hq => hq.2, fun q hq => by omega⟩, World.ownsRow_nil _ _ _ _, (fun q hq => by simp [Value.ownBlock] at hq), Inv.new, Nat.le_refl _, Nat.le_refl _, hb1.trans (hb2.mono hs1)⟩
  clear hT2 hb1 hb2
  go_wp2
  go_loopw [4, 5] (fun s ix wr => ∃ (i : Nat) (st : St) (rs : List Rt) (ro : Option Addr) (rc : Nat) (X : Nat → Prop), i ≤ l.length ∧ ix = .int .i64 i ∧ s = .slice ro rs.length rc ∧ PS w wr g i st rs ro rc X) (fun _ i _ => l.length - (intOf i).toNat)
  case atStart => exact ⟨0, st0, [], none, 0, _, Nat.zero_le _, rfl, rfl, HP2.out⟩
  case round =>
    clear HP2
    obtain ⟨i, st, rs, ro, rc, X, hi, rfl, rfl, hP⟩ := hrel
    have HP := Lib.hid hP
    clear hP
    by_cases hil : i < l.length
    · have hil' : (i : Int) < (l.length : Int) := by omega
      obtain ⟨b, off, rfl, hbl, hcs⟩ := (HRow.out.below HP.out.bel) (by omega)
      have hox := HOk.out _ (List.mem_of_getElem? (show l[i]? = some (l.getD i zAt) by rw [List.getD_eq_getElem?_getD, List.getElem?_eq_getElem hil]; rfl))
      have c0 := hcs i hil 0 _ rfl
      have c1 := hcs i hil 1 _ rfl
      have c2 := hcs i hil 2 _ rfl
      have c3 := hcs i hil 3 _ rfl
      have c4 := hcs i hil 4 _ rfl
      simp only [Nat.add_zero] at c0
      clear hcs
      generalize l.getD i zAt = x at *
      obtain ⟨kind, ⟨ra, rb, rO⟩, ad⟩ := x
      obtain ⟨_, hra, _, _, had⟩ := hox
      have Hra := Lib.hid hra
      have Had := Lib.hid had
      simp only [] at c0 c1 c2 c3 c4 Hra Had
      clear hra had
      go_upto_block 2 with fail
      clear c0 c1 c2 c3 c4
      have HXa : Hid (¬ X wr.heap.size) := Lib.hid fun hx => by have := HP.out.own.lt _ hx; omega
      have hb1 : Below wr.heap.size wr (wr.alloc (.cells #[.int .i64 kind, .int .u32 ra, .int .i64 rb, .int .i64 rO, .int .u32 ad] 33)) := (Below.refl _ wr).alloc (Nat.le_refl _) _
      have HP := Lib.hid (HP.out.below hb1)
      have LA := Lib.hid (Lies.new wr [.int .i64 kind, .int .u32 ra, .int .i64 rb, .int .i64 rO, .int .u32 ad] 33)
      generalize (wr.alloc (.cells #[.int .i64 kind, .int .u32 ra, .int .i64 rb, .int .i64 rO, .int .u32 ad] 33)) = W1 at *
      generalize wr.heap.size = a6 at *
      clear hb1
      go_cut [4] (fun s wc => ∃ (st' : St) (rs' : List Rt) (ro' : Option Addr) (rc' : Nat) (X' : Nat → Prop), s = .slice ro' rs'.length rc' ∧ PS w wc g (i + 1) st' rs' ro' rc' X')
      case first =>
        have hlen := HP.out.len
        have hnod := HP.out.nodes
        by_cases hk0 : kind = 0
        · subst hk0
          -- KIND0
          have HRA := Lib.hid (RAdd_any ro rc rs ⟨ra, rb, rO⟩ W1 HP.out.row.row (by omega) Hra.out)
          have c0 := LA.out.at0 0 0 _ rfl (Nat.zero_add _)
          have c1 := LA.out.at0 1 1 _ rfl (Nat.zero_add _)
          have c2 := LA.out.at0 2 2 _ rfl (Nat.zero_add _)
          have c3 := LA.out.at0 3 3 _ rfl (Nat.zero_add _)
          have c4 := LA.out.at0 4 4 _ rfl (Nat.zero_add _)
          go_wp2_with fail
          refine HRA.out.mono ?_
          rintro e w3 ⟨rfl, hb3⟩
          have HP3 := Lib.hid (HP.out.below hb3)
          have LA3 := Lib.hid (LA.out.below hb3)
          clear c0 c1 c2 c3 c4 hb3 HRA
          have c0 := LA3.out.at0 0 0 _ rfl (Nat.zero_add _)
          have c1 := LA3.out.at0 1 1 _ rfl (Nat.zero_add _)
          have c2 := LA3.out.at0 2 2 _ rfl (Nat.zero_add _)
          have c3 := LA3.out.at0 3 3 _ rfl (Nat.zero_add _)
          have c4 := LA3.out.at0 4 4 _ rfl (Nat.zero_add _)
          have HAd := Lib.hid (Add_any X g st rs ⟨ra, rb, rO⟩ w3 HP3.out.own.at' HP3.out.own.lt HP3.out.inv Hra.out (by omega) (by omega))
          generalize hE : R.addE rs ⟨ra, rb, rO⟩ = E at *
          have HAd : Hid (Calls Try.prog 7 #[.pointer (some ⟨g, 0, none⟩), .agg #[.int .u32 ra, .int .i64 rb, .int .i64 rO]] w3 _) := HAd
          go_wp2_with fail
          refine HAd.out.mono ?_
          rintro e w4 ⟨rfl, hc4, st4, hT4, hI4, hl4⟩
          have LA4 := Lib.hid (LA3.out.ch hc4 HXa.out)
          clear c0 c1 c2 c3 c4 HAd LA3 hE
          have hEE : ((E : Int) == (E : Int)) = true := by simp
          by_cases h0 : E = 0
          · subst h0
            obtain ⟨ro5, rc5, w5, hrun, hP5⟩ := HP3.out.app hc4 hT4 ⟨ra, rb, rO⟩ (by simpa using hI4) hl4 (by omega)
            have Hrun := Lib.hid hrun
            have HP5 := Lib.hid hP5
            clear hrun hP5 hI4 hT4 hc4 HP3
            have c0 := LA4.out.at0 0 0 _ rfl (Nat.zero_add _)
            have c1 := LA4.out.at0 1 1 _ rfl (Nat.zero_add _)
            have c2 := LA4.out.at0 2 2 _ rfl (Nat.zero_add _)
            have c3 := LA4.out.at0 3 3 _ rfl (Nat.zero_add _)
            have c4 := LA4.out.at0 4 4 _ rfl (Nat.zero_add _)
            go_wp2_with (at_builtin; refine listAppend rfl _ _ _ _ rfl _ _ rfl rfl _ _ Hrun.out ?_)
            go_meet
            exact ⟨st4, rs ++ [⟨ra, rb, rO⟩], ro5, rc5, _, by simp, HP5.out⟩
          · have hP5 := HP3.out.same hc4 hT4 (by simpa [h0] using hI4) hl4
            have HP5 := Lib.hid hP5
            have hne : ((E : Int) == 0) = false := by rw [beq_eq_false_iff_ne]; omega
            clear hP5 hI4 hT4 hc4 HP3
            go_wp2
            go_meet
            exact ⟨st4, rs, ro, rc, _, rfl, HP5.out⟩
        · by_cases hk1 : kind = 1
          · subst hk1
            -- KIND1
            have HGt := Lib.hid (RGet_any ro rc rs ra rb W1 HP.out.row.row (by omega))
            have c0 := LA.out.at0 0 0 _ rfl (Nat.zero_add _)
            have c1 := LA.out.at0 1 1 _ rfl (Nat.zero_add _)
            have c2 := LA.out.at0 2 2 _ rfl (Nat.zero_add _)
            have c3 := LA.out.at0 3 3 _ rfl (Nat.zero_add _)
            have c4 := LA.out.at0 4 4 _ rfl (Nat.zero_add _)
            go_wp2_with fail
            refine HGt.out.mono ?_
            rintro e w3 ⟨z, rfl, hz, hb3⟩
            have Hz := Lib.hid hz
            have HP3 := Lib.hid (HP.out.below hb3)
            have LA3 := Lib.hid (LA.out.below hb3)
            clear c0 c1 c2 c3 c4 hb3 hz HGt
            have c0 := LA3.out.at0 0 0 _ rfl (Nat.zero_add _)
            have c1 := LA3.out.at0 1 1 _ rfl (Nat.zero_add _)
            have c2 := LA3.out.at0 2 2 _ rfl (Nat.zero_add _)
            have c3 := LA3.out.at0 3 3 _ rfl (Nat.zero_add _)
            have c4 := LA3.out.at0 4 4 _ rfl (Nat.zero_add _)
            go_wp2_with fail
            refine (refright_any ra rb w3 Hra.out).mono ?_
            rintro e w4 ⟨rfl, hb4⟩
            have HP4 := Lib.hid (HP3.out.below hb4)
            have LA4 := Lib.hid (LA3.out.below hb4)
            clear c0 c1 c2 c3 c4 hb4
            have HDr := Lib.hid (Drop_any X g st rs ra rb z w4 HP4.out.own.at' HP4.out.own.lt HP4.out.inv Hz.out Hra.out (by omega) (by omega))
            have c0 := LA4.out.at0 0 0 _ rfl (Nat.zero_add _)
            have c1 := LA4.out.at0 1 1 _ rfl (Nat.zero_add _)
            have c2 := LA4.out.at0 2 2 _ rfl (Nat.zero_add _)
            have c3 := LA4.out.at0 3 3 _ rfl (Nat.zero_add _)
            have c4 := LA4.out.at0 4 4 _ rfl (Nat.zero_add _)
            cases hr : A.right ra rb
            · have hE : R.dropE ra rb z = 1 := by simp [R.dropE, hr]
              have hL : R.dropL rs ra rb z = rs := by simp [R.dropL, hE]
              rw [hE, hL] at HDr
              go_wp2_with fail
              refine HDr.out.mono ?_
              rintro e w5 ⟨rfl, hc5, st5, hT5, hI5, hl5⟩
              have HP5 := Lib.hid (HP4.out.same hc5 hT5 hI5 (by omega))
              clear c0 c1 c2 c3 c4 hc5 hT5 hI5 HDr
              go_wp2
              go_meet
              exact ⟨st5, rs, ro, rc, _, rfl, HP5.out⟩
            · by_cases hz0 : z < 0
              · have hE : R.dropE ra rb z = 6 := by simp [R.dropE, hr, hz0]
                have hL : R.dropL rs ra rb z = rs := by simp [R.dropL, hE]
                rw [hE, hL] at HDr
                go_wp2_with fail
                refine HDr.out.mono ?_
                rintro e w5 ⟨rfl, hc5, st5, hT5, hI5, hl5⟩
                have HP5 := Lib.hid (HP4.out.same hc5 hT5 hI5 (by omega))
                clear c0 c1 c2 c3 c4 hc5 hT5 hI5 HDr
                go_wp2
                go_meet
                exact ⟨st5, rs, ro, rc, _, rfl, HP5.out⟩
              · have hE : R.dropE ra rb z = 0 := by simp [R.dropE, hr, hz0]
                have hL : R.dropL rs ra rb z = R.without rs z.toNat := by simp [R.dropL, hE]
                rw [hE, hL] at HDr
                go_wp2_with fail
                refine HDr.out.mono ?_
                rintro e w5 ⟨rfl, hc5, st5, hT5, hI5, hl5⟩
                obtain ⟨k, hk, rfl⟩ : ∃ k : Nat, k < rs.length ∧ z = k := by
                  rcases Hz.out with ⟨h, _⟩ | ⟨k, hk, h, _⟩
                  · omega
                  · exact ⟨k, hk, h⟩
                rw [Int.toNat_natCast] at hI5
                have HRW := Lib.hid (RWithout_any ro rc rs k w5 (HP4.out.turn hc5 hT5).2.1.row (by omega) (Own.room HP4.out.row) hk)
                have HCut := Lib.hid fun (ro' : Option Addr) (rc' : Nat) (w'' : World) (hR : RtOwn w5.heap.size ro' rc' (R.without rs k) w'') (hb : Below w5.heap.size w5 w'') => HP4.out.cut hc5 hT5 hI5 hl5 hR hb (by have := R.without_len hk; omega)
                clear c0 c1 c2 c3 c4 hc5 hT5 hI5 HDr
                go_wp2_with fail
                refine HRW.out.mono ?_
                rintro e w6 ⟨ro6, rc6, rfl, hR6, hb6⟩
                have HP6 := Lib.hid (HCut.out ro6 rc6 w6 hR6 hb6)
                clear hR6 hb6 HRW HCut
                go_wp2
                go_meet
                exact ⟨st5, R.without rs k, ro6, rc6, _, rfl, HP6.out⟩
          · by_cases hk2 : kind = 2
            · subst hk2
              -- KIND2
              have HFd := Lib.hid (Find_any X g st rs HP.out.inv.choose ad W1 HP.out.own.at' HP.out.inv.choose_spec.1 Had.out (by omega))
              have c0 := LA.out.at0 0 0 _ rfl (Nat.zero_add _)
              have c1 := LA.out.at0 1 1 _ rfl (Nat.zero_add _)
              have c2 := LA.out.at0 2 2 _ rfl (Nat.zero_add _)
              have c3 := LA.out.at0 3 3 _ rfl (Nat.zero_add _)
              have c4 := LA.out.at0 4 4 _ rfl (Nat.zero_add _)
              go_wp2_with fail
              refine HFd.out.mono ?_
              rintro e w3 ⟨⟨qa, qb, qo⟩, ok, rfl, hf, hb3⟩
              unfold Rt.agg
              have Hf := Lib.hid hf
              have HP3 := Lib.hid (HP.out.below hb3)
              have LA3 := Lib.hid (LA.out.below hb3)
              clear c0 c1 c2 c3 c4 hb3 hf HFd
              have hbA : Below w3.heap.size w3 (w3.alloc (.cells #[.int .u32 qa, .int .i64 qb, .int .i64 qo] 31)) := (Below.refl _ w3).alloc (Nat.le_refl _) _
              have HPA := Lib.hid (HP3.out.below hbA)
              have LAA := Lib.hid (LA3.out.below hbA)
              have LQ := Lib.hid (Lies.new w3 [.int .u32 qa, .int .i64 qb, .int .i64 qo] 31)
              have HRf := Lib.hid (RFind_any ro rc rs ad (w3.alloc (.cells #[.int .u32 qa, .int .i64 qb, .int .i64 qo] 31)) HPA.out.row.row (by omega) (fun r hr => (inv_bits HPA.out.inv r hr).1) Had.out)
              clear hbA
              have c0 := LAA.out.at0 0 0 _ rfl (Nat.zero_add _)
              have c1 := LAA.out.at0 1 1 _ rfl (Nat.zero_add _)
              have c2 := LAA.out.at0 2 2 _ rfl (Nat.zero_add _)
              have c3 := LAA.out.at0 3 3 _ rfl (Nat.zero_add _)
              have c4 := LAA.out.at0 4 4 _ rfl (Nat.zero_add _)
              go_wp2_with fail
              refine HRf.out.mono ?_
              rintro e w4 ⟨z, rfl, hz, hb4⟩
              have HP4 := Lib.hid (HPA.out.below hb4)
              have LQ4 := Lib.hid (LQ.out.below hb4)
              have hmeet := find_meets HPA.out.inv Hf.out hz
              clear c0 c1 c2 c3 c4 hb4 hz HRf LAA LA3 LA LQ HPA Hf
              rcases hmeet with ⟨rfl, k, hk, rfl, hkr⟩ | ⟨rfl, rfl, hzr⟩
              · obtain ⟨nb, off, rfl, hL⟩ := HP4.out.row.row.lies k hk
                rw [hkr] at hL
                simp only [Rt.v] at hL
                have LR := Lib.hid hL
                have hk0 : (0 : Int) ≤ (k : Int) := by omega
                clear hL hkr
                go_upto_region 30 with fail
                refine region_gen (VG w4.heap.size [.val (.bool true), .val (.int .i64 k), .val (.bool true), .val (.bool false), .val (.bool false), .val (.bool true), .val (.bool true), .val (.agg #[.int .u32 qa, .int .i64 qb, .int .i64 qo]), .val (.slice (some ⟨nb, off, none⟩) rs.length rc), .val (.int .i64 k), .val (.pointer (some ⟨nb, off + k * 3, none⟩)), .val (.agg #[.int .u32 qa, .int .i64 qb, .int .i64 qo]), .val (.bool false), .val (.bool false), .val (.bool false), .val (.bool false), .val (.bool true), .val (.bool false), .val (.bool false), .val (undef), .val (undef), .val (undef), .val (.bool false), .val (.bool false)]) (BS w4) (by kernel_rfl) (by kernel_rfl) (Below.refl _ _).drew ⟨?_, ?_, ?_, ?_, ?_, ?_, ?_, ?_, ?_, ?_, ?_, ?_, ?_, ?_, ?_, ?_, ?_, ?_, ?_, ?_, ?_, ?_, ?_, ?_, trivial⟩ ?_
                · go_light; intro listed a' w' hs hS hun hdep
                  have e11 : a'.eval (.tmp 11) = .bool true := (hs.out 11 (by kernel_rfl)).trans (rfl)
                  exact g_val (.bool true) hS rfl (op_move rfl e11) rfl
                · go_light; intro listed a' w' hs hS hun hdep
                  have e12 : a'.eval (.tmp 12) = .int .i64 k := (hs.out 12 (by kernel_rfl)).trans (rfl)
                  exact g_val (.int .i64 k) hS rfl (op_move rfl e12) rfl
                · go_light; intro listed a' w' hs hS hun hdep
                  have e98 : a'.eval (.tmp 98) = (.int .i64 k) := hs.eval 1 _ 98 rfl (hdep ⟨1, .data⟩ (by simp) rfl) rfl
                  refine g_val (.bool true) hS rfl ?_ rfl
                  have hcn := BigFrame.eval_const a'; have hfn := BigFrame.eval_func a'; clear hs hdep; generalize a'.eval = ev at *; go_simp
                · go_light; intro listed a' w' hs hS hun hdep
                  have e97 : a'.eval (.tmp 97) = (.bool true) := hs.eval 0 _ 97 rfl (hdep ⟨0, .data⟩ (by simp) rfl) rfl
                  have e99 : a'.eval (.tmp 99) = (.bool true) := hs.eval 2 _ 99 rfl (hdep ⟨2, .data⟩ (by simp) rfl) rfl
                  refine g_val (.bool false) hS rfl ?_ rfl
                  have hcn := BigFrame.eval_const a'; have hfn := BigFrame.eval_func a'; clear hs hdep; generalize a'.eval = ev at *; go_simp
                · go_light; intro listed a' w' hs hS hun hdep
                  have e100 : a'.eval (.tmp 100) = (.bool false) := hs.eval 3 _ 100 rfl (hdep ⟨3, .data⟩ (by simp) rfl) rfl
                  exact g_val (.bool false) hS rfl (op_move rfl e100) rfl
                · go_light; intro listed a' w' hs hS hun hdep
                  have eg : a'.eval (.tmp 101) = (.bool false) := hs.eval 4 _ 101 rfl (hdep ⟨4, .guard⟩ (by simp) rfl) rfl
                  have e11 : a'.eval (.tmp 11) = .bool true := (hs.out 11 (by kernel_rfl)).trans (rfl)
                  exact g_val (.bool true) hS (wanted_yes rfl rfl rfl eg) (op_move rfl e11) rfl
                · go_light; intro listed a' w' hs hS hun hdep
                  have eg : a'.eval (.tmp 101) = (.bool false) := hs.eval 4 _ 101 rfl (hdep ⟨4, .guard⟩ (by simp) rfl) rfl
                  have e102 : a'.eval (.tmp 102) = (.bool true) := hs.eval 5 _ 102 rfl (hdep ⟨5, .data⟩ (by simp) rfl) rfl
                  exact g_val (.bool true) hS (wanted_yes rfl rfl rfl eg) (op_move rfl e102) rfl
                · go_light; intro listed a' w' hs hS hun hdep
                  have eg : a'.eval (.tmp 103) = (.bool true) := hs.eval 6 _ 103 rfl (hdep ⟨6, .guard⟩ (by simp) rfl) rfl
                  have e10 : a'.eval (.tmp 10) = .pointer (some ⟨w3.heap.size, 0, none⟩) := (hs.out 10 (by kernel_rfl)).trans (rfl)
                  exact g_val (.agg #[.int .u32 qa, .int .i64 qb, .int .i64 qo]) hS (wanted_yes rfl rfl rfl eg) (op_ld [.int .u32 qa, .int .i64 qb, .int .i64 qo] rfl e10 (LQ4.out.below hS) 0 (by first | rfl | simp) rfl Try.underlying31 rfl (by kernel_rfl)) rfl
                · go_light; intro listed a' w' hs hS hun hdep
                  have eg : a'.eval (.tmp 103) = (.bool true) := hs.eval 6 _ 103 rfl (hdep ⟨6, .guard⟩ (by simp) rfl) rfl
                  have e4 : a'.eval (.tmp 4) = .slice (some ⟨nb, off, none⟩) rs.length rc := (hs.out 4 (by kernel_rfl)).trans (rfl)
                  exact g_val (.slice (some ⟨nb, off, none⟩) rs.length rc) hS (wanted_yes rfl rfl rfl eg) (op_move rfl e4) rfl
                · go_light; intro listed a' w' hs hS hun hdep
                  have eg : a'.eval (.tmp 103) = (.bool true) := hs.eval 6 _ 103 rfl (hdep ⟨6, .guard⟩ (by simp) rfl) rfl
                  have e12 : a'.eval (.tmp 12) = .int .i64 k := (hs.out 12 (by kernel_rfl)).trans (rfl)
                  exact g_val (.int .i64 k) hS (wanted_yes rfl rfl rfl eg) (op_move rfl e12) rfl
                · go_light; intro listed a' w' hs hS hun hdep
                  have eg : a'.eval (.tmp 103) = (.bool true) := hs.eval 6 _ 103 rfl (hdep ⟨6, .guard⟩ (by simp) rfl) rfl
                  have e105 : a'.eval (.tmp 105) = (.slice (some ⟨nb, off, none⟩) rs.length rc) := hs.eval 8 _ 105 rfl (hdep ⟨8, .data⟩ (by simp) rfl) rfl
                  have e106 : a'.eval (.tmp 106) = (.int .i64 k) := hs.eval 9 _ 106 rfl (hdep ⟨9, .data⟩ (by simp) rfl) rfl
                  exact g_val (.pointer (some ⟨nb, off + k * 3, none⟩)) hS (wanted_yes rfl rfl rfl eg) (op_ixa rfl e105 e106 Try.underlying26 (by kernel_rfl) (by omega)) rfl
                · go_light; intro listed a' w' hs hS hun hdep
                  have eg : a'.eval (.tmp 103) = (.bool true) := hs.eval 6 _ 103 rfl (hdep ⟨6, .guard⟩ (by simp) rfl) rfl
                  have e107 : a'.eval (.tmp 107) = (.pointer (some ⟨nb, off + k * 3, none⟩)) := hs.eval 10 _ 107 rfl (hdep ⟨10, .data⟩ (by simp) rfl) rfl
                  exact g_val (.agg #[.int .u32 qa, .int .i64 qb, .int .i64 qo]) hS (wanted_yes rfl rfl rfl eg) (op_ld [.int .u32 qa, .int .i64 qb, .int .i64 qo] rfl e107 (LR.out.below hS) 0 (by first | rfl | simp) rfl Try.underlying31 rfl (by kernel_rfl)) rfl
                · go_light; intro listed a' w' hs hS hun hdep
                  have eg : a'.eval (.tmp 103) = (.bool true) := hs.eval 6 _ 103 rfl (hdep ⟨6, .guard⟩ (by simp) rfl) rfl
                  have e104 : a'.eval (.tmp 104) = (.agg #[.int .u32 qa, .int .i64 qb, .int .i64 qo]) := hs.eval 7 _ 104 rfl (hdep ⟨7, .data⟩ (by simp) rfl) rfl
                  have e108 : a'.eval (.tmp 108) = (.agg #[.int .u32 qa, .int .i64 qb, .int .i64 qo]) := hs.eval 11 _ 108 rfl (hdep ⟨11, .data⟩ (by simp) rfl) rfl
                  refine g_val (.bool false) hS (wanted_yes rfl rfl rfl eg) ?_ rfl
                  have hcn := BigFrame.eval_const a'; have hfn := BigFrame.eval_func a'; clear hs hdep; generalize a'.eval = ev at *; go_simp
                · go_light; intro listed a' w' hs hS hun hdep
                  have eg : a'.eval (.tmp 101) = (.bool false) := hs.eval 4 _ 101 rfl (hdep ⟨4, .guard⟩ (by simp) rfl) rfl
                  have e103 : a'.eval (.tmp 103) = (.bool true) := hs.eval 6 _ 103 rfl (hdep ⟨6, .data⟩ (by simp) rfl) rfl
                  have e109 : a'.eval (.tmp 109) = (.bool false) := hs.eval 12 _ 109 rfl (hdep ⟨12, .data⟩ (by simp) rfl) rfl
                  exact g_val (.bool false) hS (wanted_yes rfl rfl rfl eg) (op_pick_t rfl e103 e109) rfl
                · go_light; intro listed a' w' hs hS hun hdep
                  have e101 : a'.eval (.tmp 101) = (.bool false) := hs.eval 4 _ 101 rfl (hdep ⟨4, .data⟩ (by simp) rfl) rfl
                  have e110 : a'.eval (.tmp 110) = (.bool false) := hs.eval 13 _ 110 rfl (hdep ⟨13, .data⟩ (by simp) rfl) rfl
                  exact g_val (.bool false) hS rfl (op_pick_f rfl e101 e110) rfl
                · go_light; intro listed a' w' hs hS hun hdep
                  have e111 : a'.eval (.tmp 111) = (.bool false) := hs.eval 14 _ 111 rfl (hdep ⟨14, .data⟩ (by simp) rfl) rfl
                  exact g_val (.bool false) hS rfl (op_move rfl e111) rfl
                · go_light; intro listed a' w' hs hS hun hdep
                  have eg : a'.eval (.tmp 112) = (.bool false) := hs.eval 15 _ 112 rfl (hdep ⟨15, .guard⟩ (by simp) rfl) rfl
                  have e11 : a'.eval (.tmp 11) = .bool true := (hs.out 11 (by kernel_rfl)).trans (rfl)
                  exact g_val (.bool true) hS (wanted_yes rfl rfl rfl eg) (op_move rfl e11) rfl
                · go_light; intro listed a' w' hs hS hun hdep
                  have eg : a'.eval (.tmp 112) = (.bool false) := hs.eval 15 _ 112 rfl (hdep ⟨15, .guard⟩ (by simp) rfl) rfl
                  have e113 : a'.eval (.tmp 113) = (.bool true) := hs.eval 16 _ 113 rfl (hdep ⟨16, .data⟩ (by simp) rfl) rfl
                  exact g_val (.bool false) hS (wanted_yes rfl rfl rfl eg) (op_not rfl e113) rfl
                · go_light; intro listed a' w' hs hS hun hdep
                  have eg : a'.eval (.tmp 112) = (.bool false) := hs.eval 15 _ 112 rfl (hdep ⟨15, .guard⟩ (by simp) rfl) rfl
                  have e114 : a'.eval (.tmp 114) = (.bool false) := hs.eval 17 _ 114 rfl (hdep ⟨17, .data⟩ (by simp) rfl) rfl
                  exact g_val (.bool false) hS (wanted_yes rfl rfl rfl eg) (op_move rfl e114) rfl
                · go_light; intro listed a' w' hs hS hun hdep
                  have eg : a'.eval (.tmp 115) = (.bool false) := hs.eval 18 _ 115 rfl (hdep ⟨18, .guard⟩ (by simp) rfl) rfl
                  exact g_not hS (wanted_no rfl rfl rfl eg (by decide)) rfl
                · go_light; intro listed a' w' hs hS hun hdep
                  have eg : a'.eval (.tmp 115) = (.bool false) := hs.eval 18 _ 115 rfl (hdep ⟨18, .guard⟩ (by simp) rfl) rfl
                  exact g_not hS (wanted_no rfl rfl rfl eg (by decide)) rfl
                · go_light; intro listed a' w' hs hS hun hdep
                  have eg : a'.eval (.tmp 115) = (.bool false) := hs.eval 18 _ 115 rfl (hdep ⟨18, .guard⟩ (by simp) rfl) rfl
                  exact g_not hS (wanted_no rfl rfl rfl eg (by decide)) rfl
                · go_light; intro listed a' w' hs hS hun hdep
                  have eg : a'.eval (.tmp 112) = (.bool false) := hs.eval 15 _ 112 rfl (hdep ⟨15, .guard⟩ (by simp) rfl) rfl
                  have e115 : a'.eval (.tmp 115) = (.bool false) := hs.eval 18 _ 115 rfl (hdep ⟨18, .data⟩ (by simp) rfl) rfl
                  have e118 : a'.eval (.tmp 118) = (undef) := hs.eval 21 _ 118 rfl (hdep ⟨21, .data⟩ (by simp) rfl) rfl
                  exact g_val (.bool false) hS (wanted_yes rfl rfl rfl eg) (op_pick_f rfl e115 (BigFrame.eval_const a' _)) rfl
                · go_light; intro listed a' w' hs hS hun hdep
                  have e112 : a'.eval (.tmp 112) = (.bool false) := hs.eval 15 _ 112 rfl (hdep ⟨15, .data⟩ (by simp) rfl) rfl
                  have e119 : a'.eval (.tmp 119) = (.bool false) := hs.eval 22 _ 119 rfl (hdep ⟨22, .data⟩ (by simp) rfl) rfl
                  exact g_val (.bool false) hS rfl (op_pick_f rfl e112 e119) rfl
                · intro vs w5 hlen hV listed hall hS
                  obtain ⟨v0, v1, v2, v3, v4, v5, v6, v7, v8, v9, v10, v11, v12, v13, v14, v15, v16, v17, v18, v19, v20, v21, v22, v23, rfl⟩ := vs_24 vs (hlen.trans rfl)
                  have q0 : v0 = .bool true := hV 0 _ rfl
                  have q1 : v1 = .int .i64 k := hV 1 _ rfl
                  have q2 : v2 = .bool true := hV 2 _ rfl
                  have q3 : v3 = .bool false := hV 3 _ rfl
                  have q4 : v4 = .bool false := hV 4 _ rfl
                  have q5 : v5 = .bool true := hV 5 _ rfl
                  have q6 : v6 = .bool true := hV 6 _ rfl
                  have q7 : v7 = .agg #[.int .u32 qa, .int .i64 qb, .int .i64 qo] := hV 7 _ rfl
                  have q8 : v8 = .slice (some ⟨nb, off, none⟩) rs.length rc := hV 8 _ rfl
                  have q9 : v9 = .int .i64 k := hV 9 _ rfl
                  have q10 : v10 = .pointer (some ⟨nb, off + k * 3, none⟩) := hV 10 _ rfl
                  have q11 : v11 = .agg #[.int .u32 qa, .int .i64 qb, .int .i64 qo] := hV 11 _ rfl
                  have q12 : v12 = .bool false := hV 12 _ rfl
                  have q13 : v13 = .bool false := hV 13 _ rfl
                  have q14 : v14 = .bool false := hV 14 _ rfl
                  have q15 : v15 = .bool false := hV 15 _ rfl
                  have q16 : v16 = .bool true := hV 16 _ rfl
                  have q17 : v17 = .bool false := hV 17 _ rfl
                  have q18 : v18 = .bool false := hV 18 _ rfl
                  have q19 : v19 = undef := hV 19 _ rfl
                  have q20 : v20 = undef := hV 20 _ rfl
                  have q21 : v21 = undef := hV 21 _ rfl
                  have q22 : v22 = .bool false := hV 22 _ rfl
                  have q23 : v23 = .bool false := hV 23 _ rfl
                  have hbel : Below w4.heap.size w4 w5 := hS
                  subst q0 q1 q2 q3 q4 q5 q6 q7 q8 q9 q10 q11 q12 q13 q14 q15 q16 q17 q18 q19 q20 q21 q22 q23
                  clear hV hS hlen hall
                  clear listed
                  simp only [lays, Act.put, List.setIfInBounds_toArray, List.set_cons_zero, List.set_cons_succ]
                  have HP5 := Lib.hid (HP4.out.below hbel)
                  clear hbel LR LQ4
                  go_wp2
                  go_meet
                  exact ⟨st, rs, _, rc, X, rfl, HP5.out.later (by omega)⟩
              · injection hzr with e1 e2 e3
                subst e1 e2 e3
                go_upto_region 30 with fail
                refine region_gen (VG w4.heap.size [.val (.bool false), .val (.int .i64 (-1)), .val (.bool false), .val (.bool false), .val (.bool false), .val (.bool false), .val (.bool false), .val (undef), .val (undef), .val (undef), .val (undef), .val (undef), .val (undef), .val (.bool false), .val (.bool false), .val (.bool false), .val (.bool false), .val (.bool true), .val (.bool true), .val (.agg #[.int .u32 0, .int .i64 0, .int .i64 0]), .val (.agg #[.int .u32 0, .int .i64 0, .int .i64 0]), .val (.bool false), .val (.bool false), .val (.bool false)]) (BS w4) (by kernel_rfl) (by kernel_rfl) (Below.refl _ _).drew ⟨?_, ?_, ?_, ?_, ?_, ?_, ?_, ?_, ?_, ?_, ?_, ?_, ?_, ?_, ?_, ?_, ?_, ?_, ?_, ?_, ?_, ?_, ?_, ?_, trivial⟩ ?_
                · go_light; intro listed a' w' hs hS hun hdep
                  have e11 : a'.eval (.tmp 11) = .bool false := (hs.out 11 (by kernel_rfl)).trans (rfl)
                  exact g_val (.bool false) hS rfl (op_move rfl e11) rfl
                · go_light; intro listed a' w' hs hS hun hdep
                  have e12 : a'.eval (.tmp 12) = .int .i64 (-1) := (hs.out 12 (by kernel_rfl)).trans (rfl)
                  exact g_val (.int .i64 (-1)) hS rfl (op_move rfl e12) rfl
                · go_light; intro listed a' w' hs hS hun hdep
                  have e98 : a'.eval (.tmp 98) = (.int .i64 (-1)) := hs.eval 1 _ 98 rfl (hdep ⟨1, .data⟩ (by simp) rfl) rfl
                  refine g_val (.bool false) hS rfl ?_ rfl
                  have hcn := BigFrame.eval_const a'; have hfn := BigFrame.eval_func a'; clear hs hdep; generalize a'.eval = ev at *; go_simp
                · go_light; intro listed a' w' hs hS hun hdep
                  have e97 : a'.eval (.tmp 97) = (.bool false) := hs.eval 0 _ 97 rfl (hdep ⟨0, .data⟩ (by simp) rfl) rfl
                  have e99 : a'.eval (.tmp 99) = (.bool false) := hs.eval 2 _ 99 rfl (hdep ⟨2, .data⟩ (by simp) rfl) rfl
                  refine g_val (.bool false) hS rfl ?_ rfl
                  have hcn := BigFrame.eval_const a'; have hfn := BigFrame.eval_func a'; clear hs hdep; generalize a'.eval = ev at *; go_simp
                · go_light; intro listed a' w' hs hS hun hdep
                  have e100 : a'.eval (.tmp 100) = (.bool false) := hs.eval 3 _ 100 rfl (hdep ⟨3, .data⟩ (by simp) rfl) rfl
                  exact g_val (.bool false) hS rfl (op_move rfl e100) rfl
                · go_light; intro listed a' w' hs hS hun hdep
                  have eg : a'.eval (.tmp 101) = (.bool false) := hs.eval 4 _ 101 rfl (hdep ⟨4, .guard⟩ (by simp) rfl) rfl
                  have e11 : a'.eval (.tmp 11) = .bool false := (hs.out 11 (by kernel_rfl)).trans (rfl)
                  exact g_val (.bool false) hS (wanted_yes rfl rfl rfl eg) (op_move rfl e11) rfl
                · go_light; intro listed a' w' hs hS hun hdep
                  have eg : a'.eval (.tmp 101) = (.bool false) := hs.eval 4 _ 101 rfl (hdep ⟨4, .guard⟩ (by simp) rfl) rfl
                  have e102 : a'.eval (.tmp 102) = (.bool false) := hs.eval 5 _ 102 rfl (hdep ⟨5, .data⟩ (by simp) rfl) rfl
                  exact g_val (.bool false) hS (wanted_yes rfl rfl rfl eg) (op_move rfl e102) rfl
                · go_light; intro listed a' w' hs hS hun hdep
                  have eg : a'.eval (.tmp 103) = (.bool false) := hs.eval 6 _ 103 rfl (hdep ⟨6, .guard⟩ (by simp) rfl) rfl
                  exact g_not hS (wanted_no rfl rfl rfl eg (by decide)) rfl
                · go_light; intro listed a' w' hs hS hun hdep
                  have eg : a'.eval (.tmp 103) = (.bool false) := hs.eval 6 _ 103 rfl (hdep ⟨6, .guard⟩ (by simp) rfl) rfl
                  exact g_not hS (wanted_no rfl rfl rfl eg (by decide)) rfl
                · go_light; intro listed a' w' hs hS hun hdep
                  have eg : a'.eval (.tmp 103) = (.bool false) := hs.eval 6 _ 103 rfl (hdep ⟨6, .guard⟩ (by simp) rfl) rfl
                  exact g_not hS (wanted_no rfl rfl rfl eg (by decide)) rfl
                · go_light; intro listed a' w' hs hS hun hdep
                  have eg : a'.eval (.tmp 103) = (.bool false) := hs.eval 6 _ 103 rfl (hdep ⟨6, .guard⟩ (by simp) rfl) rfl
                  exact g_not hS (wanted_no rfl rfl rfl eg (by decide)) rfl
                · go_light; intro listed a' w' hs hS hun hdep
                  have eg : a'.eval (.tmp 103) = (.bool false) := hs.eval 6 _ 103 rfl (hdep ⟨6, .guard⟩ (by simp) rfl) rfl
                  exact g_not hS (wanted_no rfl rfl rfl eg (by decide)) rfl
                · go_light; intro listed a' w' hs hS hun hdep
                  have eg : a'.eval (.tmp 103) = (.bool false) := hs.eval 6 _ 103 rfl (hdep ⟨6, .guard⟩ (by simp) rfl) rfl
                  exact g_not hS (wanted_no rfl rfl rfl eg (by decide)) rfl
                · go_light; intro listed a' w' hs hS hun hdep
                  have eg : a'.eval (.tmp 101) = (.bool false) := hs.eval 4 _ 101 rfl (hdep ⟨4, .guard⟩ (by simp) rfl) rfl
                  have e103 : a'.eval (.tmp 103) = (.bool false) := hs.eval 6 _ 103 rfl (hdep ⟨6, .data⟩ (by simp) rfl) rfl
                  have e109 : a'.eval (.tmp 109) = (undef) := hs.eval 12 _ 109 rfl (hdep ⟨12, .data⟩ (by simp) rfl) rfl
                  exact g_val (.bool false) hS (wanted_yes rfl rfl rfl eg) (op_pick_f rfl e103 (BigFrame.eval_const a' _)) rfl
                · go_light; intro listed a' w' hs hS hun hdep
                  have e101 : a'.eval (.tmp 101) = (.bool false) := hs.eval 4 _ 101 rfl (hdep ⟨4, .data⟩ (by simp) rfl) rfl
                  have e110 : a'.eval (.tmp 110) = (.bool false) := hs.eval 13 _ 110 rfl (hdep ⟨13, .data⟩ (by simp) rfl) rfl
                  exact g_val (.bool false) hS rfl (op_pick_f rfl e101 e110) rfl
                · go_light; intro listed a' w' hs hS hun hdep
                  have e111 : a'.eval (.tmp 111) = (.bool false) := hs.eval 14 _ 111 rfl (hdep ⟨14, .data⟩ (by simp) rfl) rfl
                  exact g_val (.bool false) hS rfl (op_move rfl e111) rfl
                · go_light; intro listed a' w' hs hS hun hdep
                  have eg : a'.eval (.tmp 112) = (.bool false) := hs.eval 15 _ 112 rfl (hdep ⟨15, .guard⟩ (by simp) rfl) rfl
                  have e11 : a'.eval (.tmp 11) = .bool false := (hs.out 11 (by kernel_rfl)).trans (rfl)
                  exact g_val (.bool false) hS (wanted_yes rfl rfl rfl eg) (op_move rfl e11) rfl
                · go_light; intro listed a' w' hs hS hun hdep
                  have eg : a'.eval (.tmp 112) = (.bool false) := hs.eval 15 _ 112 rfl (hdep ⟨15, .guard⟩ (by simp) rfl) rfl
                  have e113 : a'.eval (.tmp 113) = (.bool false) := hs.eval 16 _ 113 rfl (hdep ⟨16, .data⟩ (by simp) rfl) rfl
                  exact g_val (.bool true) hS (wanted_yes rfl rfl rfl eg) (op_not rfl e113) rfl
                · go_light; intro listed a' w' hs hS hun hdep
                  have eg : a'.eval (.tmp 112) = (.bool false) := hs.eval 15 _ 112 rfl (hdep ⟨15, .guard⟩ (by simp) rfl) rfl
                  have e114 : a'.eval (.tmp 114) = (.bool true) := hs.eval 17 _ 114 rfl (hdep ⟨17, .data⟩ (by simp) rfl) rfl
                  exact g_val (.bool true) hS (wanted_yes rfl rfl rfl eg) (op_move rfl e114) rfl
                · go_light; intro listed a' w' hs hS hun hdep
                  have eg : a'.eval (.tmp 115) = (.bool true) := hs.eval 18 _ 115 rfl (hdep ⟨18, .guard⟩ (by simp) rfl) rfl
                  have e10 : a'.eval (.tmp 10) = .pointer (some ⟨w3.heap.size, 0, none⟩) := (hs.out 10 (by kernel_rfl)).trans (rfl)
                  exact g_val (.agg #[.int .u32 0, .int .i64 0, .int .i64 0]) hS (wanted_yes rfl rfl rfl eg) (op_ld [.int .u32 0, .int .i64 0, .int .i64 0] rfl e10 (LQ4.out.below hS) 0 (by first | rfl | simp) rfl Try.underlying31 rfl (by kernel_rfl)) rfl
                · go_light; intro listed a' w' hs hS hun hdep
                  have eg : a'.eval (.tmp 115) = (.bool true) := hs.eval 18 _ 115 rfl (hdep ⟨18, .guard⟩ (by simp) rfl) rfl
                  refine g_val (.agg #[.int .u32 0, .int .i64 0, .int .i64 0]) hS (wanted_yes rfl rfl rfl eg) ?_ rfl
                  have hcn := BigFrame.eval_const a'; have hfn := BigFrame.eval_func a'; clear hs hdep; generalize a'.eval = ev at *; go_simp
                · go_light; intro listed a' w' hs hS hun hdep
                  have eg : a'.eval (.tmp 115) = (.bool true) := hs.eval 18 _ 115 rfl (hdep ⟨18, .guard⟩ (by simp) rfl) rfl
                  have e116 : a'.eval (.tmp 116) = (.agg #[.int .u32 0, .int .i64 0, .int .i64 0]) := hs.eval 19 _ 116 rfl (hdep ⟨19, .data⟩ (by simp) rfl) rfl
                  have e117 : a'.eval (.tmp 117) = (.agg #[.int .u32 0, .int .i64 0, .int .i64 0]) := hs.eval 20 _ 117 rfl (hdep ⟨20, .data⟩ (by simp) rfl) rfl
                  refine g_val (.bool false) hS (wanted_yes rfl rfl rfl eg) ?_ rfl
                  have hcn := BigFrame.eval_const a'; have hfn := BigFrame.eval_func a'; clear hs hdep; generalize a'.eval = ev at *; go_simp
                · go_light; intro listed a' w' hs hS hun hdep
                  have eg : a'.eval (.tmp 112) = (.bool false) := hs.eval 15 _ 112 rfl (hdep ⟨15, .guard⟩ (by simp) rfl) rfl
                  have e115 : a'.eval (.tmp 115) = (.bool true) := hs.eval 18 _ 115 rfl (hdep ⟨18, .data⟩ (by simp) rfl) rfl
                  have e118 : a'.eval (.tmp 118) = (.bool false) := hs.eval 21 _ 118 rfl (hdep ⟨21, .data⟩ (by simp) rfl) rfl
                  exact g_val (.bool false) hS (wanted_yes rfl rfl rfl eg) (op_pick_t rfl e115 e118) rfl
                · go_light; intro listed a' w' hs hS hun hdep
                  have e112 : a'.eval (.tmp 112) = (.bool false) := hs.eval 15 _ 112 rfl (hdep ⟨15, .data⟩ (by simp) rfl) rfl
                  have e119 : a'.eval (.tmp 119) = (.bool false) := hs.eval 22 _ 119 rfl (hdep ⟨22, .data⟩ (by simp) rfl) rfl
                  exact g_val (.bool false) hS rfl (op_pick_f rfl e112 e119) rfl
                · intro vs w5 hlen hV listed hall hS
                  obtain ⟨v0, v1, v2, v3, v4, v5, v6, v7, v8, v9, v10, v11, v12, v13, v14, v15, v16, v17, v18, v19, v20, v21, v22, v23, rfl⟩ := vs_24 vs (hlen.trans rfl)
                  have q0 : v0 = .bool false := hV 0 _ rfl
                  have q1 : v1 = .int .i64 (-1) := hV 1 _ rfl
                  have q2 : v2 = .bool false := hV 2 _ rfl
                  have q3 : v3 = .bool false := hV 3 _ rfl
                  have q4 : v4 = .bool false := hV 4 _ rfl
                  have q5 : v5 = .bool false := hV 5 _ rfl
                  have q6 : v6 = .bool false := hV 6 _ rfl
                  have q7 : v7 = undef := hV 7 _ rfl
                  have q8 : v8 = undef := hV 8 _ rfl
                  have q9 : v9 = undef := hV 9 _ rfl
                  have q10 : v10 = undef := hV 10 _ rfl
                  have q11 : v11 = undef := hV 11 _ rfl
                  have q12 : v12 = undef := hV 12 _ rfl
                  have q13 : v13 = .bool false := hV 13 _ rfl
                  have q14 : v14 = .bool false := hV 14 _ rfl
                  have q15 : v15 = .bool false := hV 15 _ rfl
                  have q16 : v16 = .bool false := hV 16 _ rfl
                  have q17 : v17 = .bool true := hV 17 _ rfl
                  have q18 : v18 = .bool true := hV 18 _ rfl
                  have q19 : v19 = .agg #[.int .u32 0, .int .i64 0, .int .i64 0] := hV 19 _ rfl
                  have q20 : v20 = .agg #[.int .u32 0, .int .i64 0, .int .i64 0] := hV 20 _ rfl
                  have q21 : v21 = .bool false := hV 21 _ rfl
                  have q22 : v22 = .bool false := hV 22 _ rfl
                  have q23 : v23 = .bool false := hV 23 _ rfl
                  have hbel : Below w4.heap.size w4 w5 := hS
                  subst q0 q1 q2 q3 q4 q5 q6 q7 q8 q9 q10 q11 q12 q13 q14 q15 q16 q17 q18 q19 q20 q21 q22 q23
                  clear hV hS hlen hall
                  clear listed
                  simp only [lays, Act.put, List.setIfInBounds_toArray, List.set_cons_zero, List.set_cons_succ]
                  have HP5 := Lib.hid (HP4.out.below hbel)
                  clear hbel LQ4
                  go_wp2
                  go_meet
                  exact ⟨st, rs, ro, rc, X, rfl, HP5.out.later (by omega)⟩
            · by_cases hk3 : kind = 3
              · subst hk3
                -- KIND3
                have HFd := Lib.hid (GetAny X g st rs ra rb W1 HP.out.own.at' HP.out.inv Hra.out (by omega))
                have c0 := LA.out.at0 0 0 _ rfl (Nat.zero_add _)
                have c1 := LA.out.at0 1 1 _ rfl (Nat.zero_add _)
                have c2 := LA.out.at0 2 2 _ rfl (Nat.zero_add _)
                have c3 := LA.out.at0 3 3 _ rfl (Nat.zero_add _)
                have c4 := LA.out.at0 4 4 _ rfl (Nat.zero_add _)
                go_wp2_with fail
                refine HFd.out.mono ?_
                rintro e w3 ⟨⟨qa, qb, qo⟩, ok, rfl, hf, hb3⟩
                unfold Rt.agg
                have Hf := Lib.hid hf
                have HP3 := Lib.hid (HP.out.below hb3)
                have LA3 := Lib.hid (LA.out.below hb3)
                clear c0 c1 c2 c3 c4 hb3 hf HFd
                have hbA : Below w3.heap.size w3 (w3.alloc (.cells #[.int .u32 qa, .int .i64 qb, .int .i64 qo] 31)) := (Below.refl _ w3).alloc (Nat.le_refl _) _
                have HPA := Lib.hid (HP3.out.below hbA)
                have LAA := Lib.hid (LA3.out.below hbA)
                have LQ := Lib.hid (Lies.new w3 [.int .u32 qa, .int .i64 qb, .int .i64 qo] 31)
                have HRf := Lib.hid (RGet_any ro rc rs ra rb (w3.alloc (.cells #[.int .u32 qa, .int .i64 qb, .int .i64 qo] 31)) HPA.out.row.row (by omega))
                clear hbA
                have c0 := LAA.out.at0 0 0 _ rfl (Nat.zero_add _)
                have c1 := LAA.out.at0 1 1 _ rfl (Nat.zero_add _)
                have c2 := LAA.out.at0 2 2 _ rfl (Nat.zero_add _)
                have c3 := LAA.out.at0 3 3 _ rfl (Nat.zero_add _)
                have c4 := LAA.out.at0 4 4 _ rfl (Nat.zero_add _)
                go_wp2_with fail
                refine HRf.out.mono ?_
                rintro e w4 ⟨z, rfl, hz, hb4⟩
                have HP4 := Lib.hid (HPA.out.below hb4)
                have LQ4 := Lib.hid (LQ.out.below hb4)
                have hmeet := get_meets HPA.out.inv Hf.out hz
                clear c0 c1 c2 c3 c4 hb4 hz HRf LAA LA3 LA LQ HPA Hf
                rcases hmeet with ⟨rfl, k, hk, rfl, hkr⟩ | ⟨rfl, rfl, hzr⟩
                · obtain ⟨nb, off, rfl, hL⟩ := HP4.out.row.row.lies k hk
                  rw [hkr] at hL
                  simp only [Rt.v] at hL
                  have LR := Lib.hid hL
                  have hk0 : (0 : Int) ≤ (k : Int) := by omega
                  clear hL hkr
                  go_upto_region 35 with fail
                  refine region_gen (VG w4.heap.size [.val (.bool true), .val (.int .i64 k), .val (.bool true), .val (.bool false), .val (.bool false), .val (.bool true), .val (.bool true), .val (.agg #[.int .u32 qa, .int .i64 qb, .int .i64 qo]), .val (.slice (some ⟨nb, off, none⟩) rs.length rc), .val (.int .i64 k), .val (.pointer (some ⟨nb, off + k * 3, none⟩)), .val (.agg #[.int .u32 qa, .int .i64 qb, .int .i64 qo]), .val (.bool false), .val (.bool false), .val (.bool false)]) (BS w4) (by kernel_rfl) (by kernel_rfl) (Below.refl _ _).drew ⟨?_, ?_, ?_, ?_, ?_, ?_, ?_, ?_, ?_, ?_, ?_, ?_, ?_, ?_, ?_, trivial⟩ ?_
                  · go_light; intro listed a' w' hs hS hun hdep
                    have e14 : a'.eval (.tmp 14) = .bool true := (hs.out 14 (by kernel_rfl)).trans (rfl)
                    exact g_val (.bool true) hS rfl (op_move rfl e14) rfl
                  · go_light; intro listed a' w' hs hS hun hdep
                    have e15 : a'.eval (.tmp 15) = .int .i64 k := (hs.out 15 (by kernel_rfl)).trans (rfl)
                    exact g_val (.int .i64 k) hS rfl (op_move rfl e15) rfl
                  · go_light; intro listed a' w' hs hS hun hdep
                    have e137 : a'.eval (.tmp 137) = (.int .i64 k) := hs.eval 1 _ 137 rfl (hdep ⟨1, .data⟩ (by simp) rfl) rfl
                    refine g_val (.bool true) hS rfl ?_ rfl
                    have hcn := BigFrame.eval_const a'; have hfn := BigFrame.eval_func a'; clear hs hdep; generalize a'.eval = ev at *; go_simp
                  · go_light; intro listed a' w' hs hS hun hdep
                    have e136 : a'.eval (.tmp 136) = (.bool true) := hs.eval 0 _ 136 rfl (hdep ⟨0, .data⟩ (by simp) rfl) rfl
                    have e138 : a'.eval (.tmp 138) = (.bool true) := hs.eval 2 _ 138 rfl (hdep ⟨2, .data⟩ (by simp) rfl) rfl
                    refine g_val (.bool false) hS rfl ?_ rfl
                    have hcn := BigFrame.eval_const a'; have hfn := BigFrame.eval_func a'; clear hs hdep; generalize a'.eval = ev at *; go_simp
                  · go_light; intro listed a' w' hs hS hun hdep
                    have e139 : a'.eval (.tmp 139) = (.bool false) := hs.eval 3 _ 139 rfl (hdep ⟨3, .data⟩ (by simp) rfl) rfl
                    exact g_val (.bool false) hS rfl (op_move rfl e139) rfl
                  · go_light; intro listed a' w' hs hS hun hdep
                    have eg : a'.eval (.tmp 140) = (.bool false) := hs.eval 4 _ 140 rfl (hdep ⟨4, .guard⟩ (by simp) rfl) rfl
                    have e14 : a'.eval (.tmp 14) = .bool true := (hs.out 14 (by kernel_rfl)).trans (rfl)
                    exact g_val (.bool true) hS (wanted_yes rfl rfl rfl eg) (op_move rfl e14) rfl
                  · go_light; intro listed a' w' hs hS hun hdep
                    have eg : a'.eval (.tmp 140) = (.bool false) := hs.eval 4 _ 140 rfl (hdep ⟨4, .guard⟩ (by simp) rfl) rfl
                    have e141 : a'.eval (.tmp 141) = (.bool true) := hs.eval 5 _ 141 rfl (hdep ⟨5, .data⟩ (by simp) rfl) rfl
                    exact g_val (.bool true) hS (wanted_yes rfl rfl rfl eg) (op_move rfl e141) rfl
                  · go_light; intro listed a' w' hs hS hun hdep
                    have eg : a'.eval (.tmp 142) = (.bool true) := hs.eval 6 _ 142 rfl (hdep ⟨6, .guard⟩ (by simp) rfl) rfl
                    have e13 : a'.eval (.tmp 13) = .pointer (some ⟨w3.heap.size, 0, none⟩) := (hs.out 13 (by kernel_rfl)).trans (rfl)
                    exact g_val (.agg #[.int .u32 qa, .int .i64 qb, .int .i64 qo]) hS (wanted_yes rfl rfl rfl eg) (op_ld [.int .u32 qa, .int .i64 qb, .int .i64 qo] rfl e13 (LQ4.out.below hS) 0 (by first | rfl | simp) rfl Try.underlying31 rfl (by kernel_rfl)) rfl
                  · go_light; intro listed a' w' hs hS hun hdep
                    have eg : a'.eval (.tmp 142) = (.bool true) := hs.eval 6 _ 142 rfl (hdep ⟨6, .guard⟩ (by simp) rfl) rfl
                    have e4 : a'.eval (.tmp 4) = .slice (some ⟨nb, off, none⟩) rs.length rc := (hs.out 4 (by kernel_rfl)).trans (rfl)
                    exact g_val (.slice (some ⟨nb, off, none⟩) rs.length rc) hS (wanted_yes rfl rfl rfl eg) (op_move rfl e4) rfl
                  · go_light; intro listed a' w' hs hS hun hdep
                    have eg : a'.eval (.tmp 142) = (.bool true) := hs.eval 6 _ 142 rfl (hdep ⟨6, .guard⟩ (by simp) rfl) rfl
                    have e15 : a'.eval (.tmp 15) = .int .i64 k := (hs.out 15 (by kernel_rfl)).trans (rfl)
                    exact g_val (.int .i64 k) hS (wanted_yes rfl rfl rfl eg) (op_move rfl e15) rfl
                  · go_light; intro listed a' w' hs hS hun hdep
                    have eg : a'.eval (.tmp 142) = (.bool true) := hs.eval 6 _ 142 rfl (hdep ⟨6, .guard⟩ (by simp) rfl) rfl
                    have e144 : a'.eval (.tmp 144) = (.slice (some ⟨nb, off, none⟩) rs.length rc) := hs.eval 8 _ 144 rfl (hdep ⟨8, .data⟩ (by simp) rfl) rfl
                    have e145 : a'.eval (.tmp 145) = (.int .i64 k) := hs.eval 9 _ 145 rfl (hdep ⟨9, .data⟩ (by simp) rfl) rfl
                    exact g_val (.pointer (some ⟨nb, off + k * 3, none⟩)) hS (wanted_yes rfl rfl rfl eg) (op_ixa rfl e144 e145 Try.underlying26 (by kernel_rfl) (by omega)) rfl
                  · go_light; intro listed a' w' hs hS hun hdep
                    have eg : a'.eval (.tmp 142) = (.bool true) := hs.eval 6 _ 142 rfl (hdep ⟨6, .guard⟩ (by simp) rfl) rfl
                    have e146 : a'.eval (.tmp 146) = (.pointer (some ⟨nb, off + k * 3, none⟩)) := hs.eval 10 _ 146 rfl (hdep ⟨10, .data⟩ (by simp) rfl) rfl
                    exact g_val (.agg #[.int .u32 qa, .int .i64 qb, .int .i64 qo]) hS (wanted_yes rfl rfl rfl eg) (op_ld [.int .u32 qa, .int .i64 qb, .int .i64 qo] rfl e146 (LR.out.below hS) 0 (by first | rfl | simp) rfl Try.underlying31 rfl (by kernel_rfl)) rfl
                  · go_light; intro listed a' w' hs hS hun hdep
                    have eg : a'.eval (.tmp 142) = (.bool true) := hs.eval 6 _ 142 rfl (hdep ⟨6, .guard⟩ (by simp) rfl) rfl
                    have e143 : a'.eval (.tmp 143) = (.agg #[.int .u32 qa, .int .i64 qb, .int .i64 qo]) := hs.eval 7 _ 143 rfl (hdep ⟨7, .data⟩ (by simp) rfl) rfl
                    have e147 : a'.eval (.tmp 147) = (.agg #[.int .u32 qa, .int .i64 qb, .int .i64 qo]) := hs.eval 11 _ 147 rfl (hdep ⟨11, .data⟩ (by simp) rfl) rfl
                    refine g_val (.bool false) hS (wanted_yes rfl rfl rfl eg) ?_ rfl
                    have hcn := BigFrame.eval_const a'; have hfn := BigFrame.eval_func a'; clear hs hdep; generalize a'.eval = ev at *; go_simp
                  · go_light; intro listed a' w' hs hS hun hdep
                    have eg : a'.eval (.tmp 140) = (.bool false) := hs.eval 4 _ 140 rfl (hdep ⟨4, .guard⟩ (by simp) rfl) rfl
                    have e142 : a'.eval (.tmp 142) = (.bool true) := hs.eval 6 _ 142 rfl (hdep ⟨6, .data⟩ (by simp) rfl) rfl
                    have e148 : a'.eval (.tmp 148) = (.bool false) := hs.eval 12 _ 148 rfl (hdep ⟨12, .data⟩ (by simp) rfl) rfl
                    exact g_val (.bool false) hS (wanted_yes rfl rfl rfl eg) (op_pick_t rfl e142 e148) rfl
                  · go_light; intro listed a' w' hs hS hun hdep
                    have e140 : a'.eval (.tmp 140) = (.bool false) := hs.eval 4 _ 140 rfl (hdep ⟨4, .data⟩ (by simp) rfl) rfl
                    have e149 : a'.eval (.tmp 149) = (.bool false) := hs.eval 13 _ 149 rfl (hdep ⟨13, .data⟩ (by simp) rfl) rfl
                    exact g_val (.bool false) hS rfl (op_pick_f rfl e140 e149) rfl
                  · intro vs w5 hlen hV listed hall hS
                    obtain ⟨v0, v1, v2, v3, v4, v5, v6, v7, v8, v9, v10, v11, v12, v13, v14, rfl⟩ := vs_15 vs (hlen.trans rfl)
                    have q0 : v0 = .bool true := hV 0 _ rfl
                    have q1 : v1 = .int .i64 k := hV 1 _ rfl
                    have q2 : v2 = .bool true := hV 2 _ rfl
                    have q3 : v3 = .bool false := hV 3 _ rfl
                    have q4 : v4 = .bool false := hV 4 _ rfl
                    have q5 : v5 = .bool true := hV 5 _ rfl
                    have q6 : v6 = .bool true := hV 6 _ rfl
                    have q7 : v7 = .agg #[.int .u32 qa, .int .i64 qb, .int .i64 qo] := hV 7 _ rfl
                    have q8 : v8 = .slice (some ⟨nb, off, none⟩) rs.length rc := hV 8 _ rfl
                    have q9 : v9 = .int .i64 k := hV 9 _ rfl
                    have q10 : v10 = .pointer (some ⟨nb, off + k * 3, none⟩) := hV 10 _ rfl
                    have q11 : v11 = .agg #[.int .u32 qa, .int .i64 qb, .int .i64 qo] := hV 11 _ rfl
                    have q12 : v12 = .bool false := hV 12 _ rfl
                    have q13 : v13 = .bool false := hV 13 _ rfl
                    have q14 : v14 = .bool false := hV 14 _ rfl
                    have hbel : Below w4.heap.size w4 w5 := hS
                    subst q0 q1 q2 q3 q4 q5 q6 q7 q8 q9 q10 q11 q12 q13 q14
                    clear hV hS hlen hall
                    clear listed
                    simp only [lays, Act.put, List.setIfInBounds_toArray, List.set_cons_zero, List.set_cons_succ]
                    have HP5 := Lib.hid (HP4.out.below hbel)
                    clear hbel LR LQ4
                    go_wp2
                    go_meet
                    exact ⟨st, rs, _, rc, X, rfl, HP5.out.later (by omega)⟩
                · skip
                  skip
                  go_upto_region 35 with fail
                  refine region_gen (VG w4.heap.size [.val (.bool false), .val (.int .i64 (-1)), .val (.bool false), .val (.bool false), .val (.bool false), .val (.bool false), .val (.bool false), .val (undef), .val (undef), .val (undef), .val (undef), .val (undef), .val (undef), .val (.bool false), .val (.bool false)]) (BS w4) (by kernel_rfl) (by kernel_rfl) (Below.refl _ _).drew ⟨?_, ?_, ?_, ?_, ?_, ?_, ?_, ?_, ?_, ?_, ?_, ?_, ?_, ?_, ?_, trivial⟩ ?_
                  · go_light; intro listed a' w' hs hS hun hdep
                    have e14 : a'.eval (.tmp 14) = .bool false := (hs.out 14 (by kernel_rfl)).trans (rfl)
                    exact g_val (.bool false) hS rfl (op_move rfl e14) rfl
                  · go_light; intro listed a' w' hs hS hun hdep
                    have e15 : a'.eval (.tmp 15) = .int .i64 (-1) := (hs.out 15 (by kernel_rfl)).trans (rfl)
                    exact g_val (.int .i64 (-1)) hS rfl (op_move rfl e15) rfl
                  · go_light; intro listed a' w' hs hS hun hdep
                    have e137 : a'.eval (.tmp 137) = (.int .i64 (-1)) := hs.eval 1 _ 137 rfl (hdep ⟨1, .data⟩ (by simp) rfl) rfl
                    refine g_val (.bool false) hS rfl ?_ rfl
                    have hcn := BigFrame.eval_const a'; have hfn := BigFrame.eval_func a'; clear hs hdep; generalize a'.eval = ev at *; go_simp
                  · go_light; intro listed a' w' hs hS hun hdep
                    have e136 : a'.eval (.tmp 136) = (.bool false) := hs.eval 0 _ 136 rfl (hdep ⟨0, .data⟩ (by simp) rfl) rfl
                    have e138 : a'.eval (.tmp 138) = (.bool false) := hs.eval 2 _ 138 rfl (hdep ⟨2, .data⟩ (by simp) rfl) rfl
                    refine g_val (.bool false) hS rfl ?_ rfl
                    have hcn := BigFrame.eval_const a'; have hfn := BigFrame.eval_func a'; clear hs hdep; generalize a'.eval = ev at *; go_simp
                  · go_light; intro listed a' w' hs hS hun hdep
                    have e139 : a'.eval (.tmp 139) = (.bool false) := hs.eval 3 _ 139 rfl (hdep ⟨3, .data⟩ (by simp) rfl) rfl
                    exact g_val (.bool false) hS rfl (op_move rfl e139) rfl
                  · go_light; intro listed a' w' hs hS hun hdep
                    have eg : a'.eval (.tmp 140) = (.bool false) := hs.eval 4 _ 140 rfl (hdep ⟨4, .guard⟩ (by simp) rfl) rfl
                    have e14 : a'.eval (.tmp 14) = .bool false := (hs.out 14 (by kernel_rfl)).trans (rfl)
                    exact g_val (.bool false) hS (wanted_yes rfl rfl rfl eg) (op_move rfl e14) rfl
                  · go_light; intro listed a' w' hs hS hun hdep
                    have eg : a'.eval (.tmp 140) = (.bool false) := hs.eval 4 _ 140 rfl (hdep ⟨4, .guard⟩ (by simp) rfl) rfl
                    have e141 : a'.eval (.tmp 141) = (.bool false) := hs.eval 5 _ 141 rfl (hdep ⟨5, .data⟩ (by simp) rfl) rfl
                    exact g_val (.bool false) hS (wanted_yes rfl rfl rfl eg) (op_move rfl e141) rfl
                  · go_light; intro listed a' w' hs hS hun hdep
                    have eg : a'.eval (.tmp 142) = (.bool false) := hs.eval 6 _ 142 rfl (hdep ⟨6, .guard⟩ (by simp) rfl) rfl
                    exact g_not hS (wanted_no rfl rfl rfl eg (by decide)) rfl
                  · go_light; intro listed a' w' hs hS hun hdep
                    have eg : a'.eval (.tmp 142) = (.bool false) := hs.eval 6 _ 142 rfl (hdep ⟨6, .guard⟩ (by simp) rfl) rfl
                    exact g_not hS (wanted_no rfl rfl rfl eg (by decide)) rfl
                  · go_light; intro listed a' w' hs hS hun hdep
                    have eg : a'.eval (.tmp 142) = (.bool false) := hs.eval 6 _ 142 rfl (hdep ⟨6, .guard⟩ (by simp) rfl) rfl
                    exact g_not hS (wanted_no rfl rfl rfl eg (by decide)) rfl
                  · go_light; intro listed a' w' hs hS hun hdep
                    have eg : a'.eval (.tmp 142) = (.bool false) := hs.eval 6 _ 142 rfl (hdep ⟨6, .guard⟩ (by simp) rfl) rfl
                    exact g_not hS (wanted_no rfl rfl rfl eg (by decide)) rfl
                  · go_light; intro listed a' w' hs hS hun hdep
                    have eg : a'.eval (.tmp 142) = (.bool false) := hs.eval 6 _ 142 rfl (hdep ⟨6, .guard⟩ (by simp) rfl) rfl
                    exact g_not hS (wanted_no rfl rfl rfl eg (by decide)) rfl
                  · go_light; intro listed a' w' hs hS hun hdep
                    have eg : a'.eval (.tmp 142) = (.bool false) := hs.eval 6 _ 142 rfl (hdep ⟨6, .guard⟩ (by simp) rfl) rfl
                    exact g_not hS (wanted_no rfl rfl rfl eg (by decide)) rfl
                  · go_light; intro listed a' w' hs hS hun hdep
                    have eg : a'.eval (.tmp 140) = (.bool false) := hs.eval 4 _ 140 rfl (hdep ⟨4, .guard⟩ (by simp) rfl) rfl
                    have e142 : a'.eval (.tmp 142) = (.bool false) := hs.eval 6 _ 142 rfl (hdep ⟨6, .data⟩ (by simp) rfl) rfl
                    have e148 : a'.eval (.tmp 148) = (undef) := hs.eval 12 _ 148 rfl (hdep ⟨12, .data⟩ (by simp) rfl) rfl
                    exact g_val (.bool false) hS (wanted_yes rfl rfl rfl eg) (op_pick_f rfl e142 (BigFrame.eval_const a' _)) rfl
                  · go_light; intro listed a' w' hs hS hun hdep
                    have e140 : a'.eval (.tmp 140) = (.bool false) := hs.eval 4 _ 140 rfl (hdep ⟨4, .data⟩ (by simp) rfl) rfl
                    have e149 : a'.eval (.tmp 149) = (.bool false) := hs.eval 13 _ 149 rfl (hdep ⟨13, .data⟩ (by simp) rfl) rfl
                    exact g_val (.bool false) hS rfl (op_pick_f rfl e140 e149) rfl
                  · intro vs w5 hlen hV listed hall hS
                    obtain ⟨v0, v1, v2, v3, v4, v5, v6, v7, v8, v9, v10, v11, v12, v13, v14, rfl⟩ := vs_15 vs (hlen.trans rfl)
                    have q0 : v0 = .bool false := hV 0 _ rfl
                    have q1 : v1 = .int .i64 (-1) := hV 1 _ rfl
                    have q2 : v2 = .bool false := hV 2 _ rfl
                    have q3 : v3 = .bool false := hV 3 _ rfl
                    have q4 : v4 = .bool false := hV 4 _ rfl
                    have q5 : v5 = .bool false := hV 5 _ rfl
                    have q6 : v6 = .bool false := hV 6 _ rfl
                    have q7 : v7 = undef := hV 7 _ rfl
                    have q8 : v8 = undef := hV 8 _ rfl
                    have q9 : v9 = undef := hV 9 _ rfl
                    have q10 : v10 = undef := hV 10 _ rfl
                    have q11 : v11 = undef := hV 11 _ rfl
                    have q12 : v12 = undef := hV 12 _ rfl
                    have q13 : v13 = .bool false := hV 13 _ rfl
                    have q14 : v14 = .bool false := hV 14 _ rfl
                    have hbel : Below w4.heap.size w4 w5 := hS
                    subst q0 q1 q2 q3 q4 q5 q6 q7 q8 q9 q10 q11 q12 q13 q14
                    clear hV hS hlen hall
                    clear listed
                    simp only [lays, Act.put, List.setIfInBounds_toArray, List.set_cons_zero, List.set_cons_succ]
                    have HP5 := Lib.hid (HP4.out.below hbel)
                    clear hbel LQ4
                    go_wp2
                    go_meet
                    exact ⟨st, rs, ro, rc, X, rfl, HP5.out.later (by omega)⟩
              · clear LA
                go_wp2_with fail
                go_meet
                exact ⟨st, rs, ro, rc, X, rfl, HP.out.later (by omega)⟩
      clear HP LA HXa Hra Had
      obtain ⟨st1, rs1, ro1, rc1, X1, rfl, hP⟩ := hcut
      have HP := Lib.hid hP
      clear hP
      obtain ⟨pl1, hRep1, hFull1⟩ := HP.out.inv
      have h0n := R.inv_zero HP.out.inv
      obtain ⟨n, hn⟩ : ∃ n, st1.nodes.length = n + st1.free.length := ⟨st1.nodes.length - st1.free.length, by have := hRep1.free_le; omega⟩
      have hcn := add_inv_len HP.out.inv
      have hln := HP.out.nodes
      have hl1 := HP.out.len
      clear hRep1 hFull1
      go_wp2_with fail
      refine (Len_any X1 g st1 _ HP.out.own.at' h0n).mono ?_
      rintro e w3 ⟨rfl, rfl⟩
      rw [hcn]
      go_wp2_with fail
      refine (Nodes_any X1 g st1 n _ HP.out.own.at' h0n hn (by omega)).mono ?_
      rintro e w4 ⟨rfl, hb4⟩
      have HP4 := Lib.hid (HP.out.below hb4)
      clear hb4
      go_wp2_with fail
      refine (RNodes_any ro1 rc1 rs1 w4 HP4.out.row.row (by omega) (inv_bits HP4.out.inv)).mono ?_
      rintro e w5 ⟨D, hD, rfl, hb5⟩
      have HP5 := Lib.hid (HP4.out.below hb5)
      obtain rfl : n = D.length := by have := HP4.out.inv.len hD; omega
      clear hD hb5 HP4 HP
      go_wp2
      go_roundw
      case rel => exact ⟨i + 1, st1, rs1, ro1, rc1, X1, by omega, by go_num, rfl, HP5.out⟩
      case measure => simp [intOf]; omega
    · obtain rfl : i = l.length := by omega
      have hl1 := HP.out.len
      have HAll := Lib.hid (callsIn_wide.1 (All_in X g st rs wr HP.out.own.at' HP.out.inv 3 (by omega) (by omega)))
      go_wp2_with fail
      refine HAll.out.mono ?_
      rintro e w3 ⟨xo', xc, xs, hA, rfl, hR3, hb3⟩
      have HP3 := Lib.hid (HP.out.below hb3)
      have HA := Lib.hid hA
      have HX := Lib.hid hR3.row
      have hlen := hA.len
      rw [hlen]
      clear hA hR3 hb3 HP HAll
      go_wp2
      go_loopw [17] (fun ix wr => ∃ j : Nat, j ≤ rs.length ∧ ix = .int .i64 j ∧ Below w3.heap.size w3 wr) (fun ix _ => rs.length - (intOf ix).toNat)
      case atStart => exact ⟨0, Nat.zero_le _, rfl, Below.refl _ _⟩
      case round =>
        obtain ⟨j, hj, rfl, hbq⟩ := hrel
        by_cases hjl : j < rs.length
        · have hjl' : (j : Int) < (rs.length : Int) := by omega
          have HPq := Lib.hid (HP3.out.below hbq)
          obtain ⟨xb, xo, rfl, hL⟩ := (HX.out.below hbq).all (by omega)
          have hLJ := hL j (by omega)
          have hmem := (HA.out.mem _).1 (getD_mem xs j (by omega))
          by_cases hj0 : j = 0
          · have H186 : Hid (decide ((0 : Int) < (j : Int)) = false) := Lib.hid (decide_eq_false (by omega))
            have hq186 : ¬ ((0 : Int) < (j : Int)) := by omega
            clear hL
            generalize xs.getD j zR = rj at *
            obtain ⟨pa, pb, po⟩ := rj
            simp only [Rt.v] at hLJ
            have LJ := Lib.hid hLJ
            have HGt := Lib.hid (fun w' (hb' : Below wr.heap.size wr w') => show Calls Try.prog 8 #[.slice ro rs.length rc, .agg #[.int .u32 pa, .int .i64 pb]] w' (fun e w'' => ∃ v, e = .returned v ∧ (∃ k : Nat, v = .int .i64 k) ∧ Below w'.heap.size w' w'') from (RGet_any ro rc rs pa pb w' (HPq.out.below hb').row.row (by omega)).mono fun e w'' hh => by
              obtain ⟨z, he, hz, hb⟩ := hh
              obtain ⟨k, hk⟩ := get_ix hmem hz
              exact ⟨.int .i64 z, he, ⟨k, by rw [hk]⟩, hb⟩)
            clear hLJ hmem HPq
            go_upto_region 45 with fail
            refine region_gen (VG wr.heap.size [.val (.slice ro rs.length rc), .val (.slice (some ⟨xb, xo, none⟩) rs.length xc), .val (.int .i64 j), .val (.pointer (some ⟨xb, xo + j * 3, none⟩)), .val (.pointer (some ⟨xb, xo + j * 3, none⟩)), .val (.agg #[.int .u32 pa, .int .i64 pb]), .pr (fun v _ => ∃ k : Nat, v = .int .i64 k) (fun v w w' h _ => h), .val (.bool false), .val (.bool false), .val (.int .i64 j), .val (.bool false), .val (.bool false), .val (undef), .val (undef), .val (undef), .val (undef), .val (undef), .val (undef), .val (undef), .val (undef), .val (undef), .val (undef), .val (undef), .val (undef), .val (undef), .val (undef), .val (undef), .val (undef), .val (undef), .val (undef), .val (undef), .val (undef), .val (undef), .val (undef), .val (undef), .val (undef), .val (undef), .val (undef), .val (undef), .val (undef), .val (undef), .val (undef), .val (undef), .val (undef), .val (undef), .val (undef), .val (undef), .val (undef), .val (undef), .val (undef), .val (undef), .val (undef), .val (undef), .val (undef), .val (undef), .val (undef), .val (undef), .val (undef), .val (.bool false), .val (.bool false)]) (BS wr) (by kernel_rfl) (by kernel_rfl) (Below.refl _ _).drew ⟨?_, ?_, ?_, ?_, ?_, ?_, ?_, ?_, ?_, ?_, ?_, ?_, ?_, ?_, ?_, ?_, ?_, ?_, ?_, ?_, ?_, ?_, ?_, ?_, ?_, ?_, ?_, ?_, ?_, ?_, ?_, ?_, ?_, ?_, ?_, ?_, ?_, ?_, ?_, ?_, ?_, ?_, ?_, ?_, ?_, ?_, ?_, ?_, ?_, ?_, ?_, ?_, ?_, ?_, ?_, ?_, ?_, ?_, ?_, ?_, trivial⟩ ?_
            · go_light; intro listed a' w' hs hS hun hdep
              have e4 : a'.eval (.tmp 4) = .slice ro rs.length rc := (hs.out 4 (by kernel_rfl)).trans (rfl)
              exact g_val (.slice ro rs.length rc) hS rfl (op_move rfl e4) rfl
            · go_light; intro listed a' w' hs hS hun hdep
              have e16 : a'.eval (.tmp 16) = .slice (some ⟨xb, xo, none⟩) rs.length xc := (hs.out 16 (by kernel_rfl)).trans (rfl)
              exact g_val (.slice (some ⟨xb, xo, none⟩) rs.length xc) hS rfl (op_move rfl e16) rfl
            · go_light; intro listed a' w' hs hS hun hdep
              have e17 : a'.eval (.tmp 17) = .int .i64 j := (hs.out 17 (by kernel_rfl)).trans (rfl)
              exact g_val (.int .i64 j) hS rfl (op_move rfl e17) rfl
            · go_light; intro listed a' w' hs hS hun hdep
              have e177 : a'.eval (.tmp 177) = (.slice (some ⟨xb, xo, none⟩) rs.length xc) := hs.eval 1 _ 177 rfl (hdep ⟨1, .data⟩ (by simp) rfl) rfl
              have e178 : a'.eval (.tmp 178) = (.int .i64 j) := hs.eval 2 _ 178 rfl (hdep ⟨2, .data⟩ (by simp) rfl) rfl
              exact g_val (.pointer (some ⟨xb, xo + j * 3, none⟩)) hS rfl (op_ixa rfl e177 e178 Try.underlying26 (by kernel_rfl) (by omega)) rfl
            · go_light; intro listed a' w' hs hS hun hdep
              have e179 : a'.eval (.tmp 179) = (.pointer (some ⟨xb, xo + j * 3, none⟩)) := hs.eval 3 _ 179 rfl (hdep ⟨3, .data⟩ (by simp) rfl) rfl
              refine g_val (.pointer (some ⟨xb, xo + j * 3, none⟩)) hS rfl ?_ rfl
              have hcn := BigFrame.eval_const a'; have hfn := BigFrame.eval_func a'; clear hs hdep; generalize a'.eval = ev at *; go_simp
            · go_light; intro listed a' w' hs hS hun hdep
              have e180 : a'.eval (.tmp 180) = (.pointer (some ⟨xb, xo + j * 3, none⟩)) := hs.eval 4 _ 180 rfl (hdep ⟨4, .data⟩ (by simp) rfl) rfl
              exact g_val (.agg #[.int .u32 pa, .int .i64 pb]) hS rfl (op_ld [.int .u32 pa, .int .i64 pb] rfl e180 (LJ.out.below hS) 0 (by first | rfl | simp) rfl Try.underlying29 rfl (by kernel_rfl)) rfl
            · go_light; intro listed a' w' hs hS hun hdep
              have e176 : a'.eval (.tmp 176) = (.slice ro rs.length rc) := hs.eval 0 _ 176 rfl (hdep ⟨0, .data⟩ (by simp) rfl) rfl
              have e181 : a'.eval (.tmp 181) = (.agg #[.int .u32 pa, .int .i64 pb]) := hs.eval 5 _ 181 rfl (hdep ⟨5, .data⟩ (by simp) rfl) rfl
              refine g_call 8 #[.slice ro rs.length rc, .agg #[.int .u32 pa, .int .i64 pb]] hS rfl ?_ ?_
              · have hcn := BigFrame.eval_const a'; have hfn := BigFrame.eval_func a'; clear hs hdep; generalize a'.eval = ev at *; go_simp
              · exact c_pr (HGt.out w' hS) rfl
            · go_light; intro listed a' w' hs hS hun hdep
              have r182 : (fun v _ => ∃ k : Nat, v = .int .i64 k) (a'.eval (.tmp 182)) w' := hs.eval 6 _ 182 rfl (hdep ⟨6, .data⟩ (by simp) rfl) rfl
              obtain ⟨kk, e182⟩ := r182
              have hkk : ¬ ((kk : Int) < 0) := by omega
              refine g_val (.bool false) hS rfl ?_ rfl
              have hcn := BigFrame.eval_const a'; have hfn := BigFrame.eval_func a'; clear hs hdep; generalize a'.eval = ev at *; go_simp; try first | omega | (simp; omega)
            · go_light; intro listed a' w' hs hS hun hdep
              have e183 : a'.eval (.tmp 183) = (.bool false) := hs.eval 7 _ 183 rfl (hdep ⟨7, .data⟩ (by simp) rfl) rfl
              exact g_val (.bool false) hS rfl (op_move rfl e183) rfl
            · go_light; intro listed a' w' hs hS hun hdep
              have eg : a'.eval (.tmp 184) = (.bool false) := hs.eval 8 _ 184 rfl (hdep ⟨8, .guard⟩ (by simp) rfl) rfl
              have e17 : a'.eval (.tmp 17) = .int .i64 j := (hs.out 17 (by kernel_rfl)).trans (rfl)
              exact g_val (.int .i64 j) hS (wanted_yes rfl rfl rfl eg) (op_move rfl e17) rfl
            · go_light; intro listed a' w' hs hS hun hdep
              have eg : a'.eval (.tmp 184) = (.bool false) := hs.eval 8 _ 184 rfl (hdep ⟨8, .guard⟩ (by simp) rfl) rfl
              have e185 : a'.eval (.tmp 185) = (.int .i64 j) := hs.eval 9 _ 185 rfl (hdep ⟨9, .data⟩ (by simp) rfl) rfl
              refine g_val (.bool false) hS (wanted_yes rfl rfl rfl eg) ?_ rfl
              have hcn := BigFrame.eval_const a'; have hfn := BigFrame.eval_func a'; clear hs hdep; generalize a'.eval = ev at *; go_simp; try first | exact H186.out | omega | (simp; omega)
            · go_light; intro listed a' w' hs hS hun hdep
              have eg : a'.eval (.tmp 184) = (.bool false) := hs.eval 8 _ 184 rfl (hdep ⟨8, .guard⟩ (by simp) rfl) rfl
              have e186 : a'.eval (.tmp 186) = (.bool false) := hs.eval 10 _ 186 rfl (hdep ⟨10, .data⟩ (by simp) rfl) rfl
              exact g_val (.bool false) hS (wanted_yes rfl rfl rfl eg) (op_move rfl e186) rfl
            · go_light; intro listed a' w' hs hS hun hdep
              have eg : a'.eval (.tmp 187) = (.bool false) := hs.eval 11 _ 187 rfl (hdep ⟨11, .guard⟩ (by simp) rfl) rfl
              exact g_not hS (wanted_no rfl rfl rfl eg (by decide)) rfl
            · go_light; intro listed a' w' hs hS hun hdep
              have eg : a'.eval (.tmp 187) = (.bool false) := hs.eval 11 _ 187 rfl (hdep ⟨11, .guard⟩ (by simp) rfl) rfl
              exact g_not hS (wanted_no rfl rfl rfl eg (by decide)) rfl
            · go_light; intro listed a' w' hs hS hun hdep
              have eg : a'.eval (.tmp 187) = (.bool false) := hs.eval 11 _ 187 rfl (hdep ⟨11, .guard⟩ (by simp) rfl) rfl
              exact g_not hS (wanted_no rfl rfl rfl eg (by decide)) rfl
            · go_light; intro listed a' w' hs hS hun hdep
              have eg : a'.eval (.tmp 187) = (.bool false) := hs.eval 11 _ 187 rfl (hdep ⟨11, .guard⟩ (by simp) rfl) rfl
              exact g_not hS (wanted_no rfl rfl rfl eg (by decide)) rfl
            · go_light; intro listed a' w' hs hS hun hdep
              have eg : a'.eval (.tmp 187) = (.bool false) := hs.eval 11 _ 187 rfl (hdep ⟨11, .guard⟩ (by simp) rfl) rfl
              exact g_not hS (wanted_no rfl rfl rfl eg (by decide)) rfl
            · go_light; intro listed a' w' hs hS hun hdep
              have eg : a'.eval (.tmp 187) = (.bool false) := hs.eval 11 _ 187 rfl (hdep ⟨11, .guard⟩ (by simp) rfl) rfl
              exact g_not hS (wanted_no rfl rfl rfl eg (by decide)) rfl
            · go_light; intro listed a' w' hs hS hun hdep
              have eg : a'.eval (.tmp 187) = (.bool false) := hs.eval 11 _ 187 rfl (hdep ⟨11, .guard⟩ (by simp) rfl) rfl
              exact g_not hS (wanted_no rfl rfl rfl eg (by decide)) rfl
            · go_light; intro listed a' w' hs hS hun hdep
              have eg : a'.eval (.tmp 187) = (.bool false) := hs.eval 11 _ 187 rfl (hdep ⟨11, .guard⟩ (by simp) rfl) rfl
              exact g_not hS (wanted_no rfl rfl rfl eg (by decide)) rfl
            · go_light; intro listed a' w' hs hS hun hdep
              have eg : a'.eval (.tmp 187) = (.bool false) := hs.eval 11 _ 187 rfl (hdep ⟨11, .guard⟩ (by simp) rfl) rfl
              exact g_not hS (wanted_no rfl rfl rfl eg (by decide)) rfl
            · go_light; intro listed a' w' hs hS hun hdep
              have eg : a'.eval (.tmp 187) = (.bool false) := hs.eval 11 _ 187 rfl (hdep ⟨11, .guard⟩ (by simp) rfl) rfl
              exact g_not hS (wanted_no rfl rfl rfl eg (by decide)) rfl
            · go_light; intro listed a' w' hs hS hun hdep
              have eg : a'.eval (.tmp 187) = (.bool false) := hs.eval 11 _ 187 rfl (hdep ⟨11, .guard⟩ (by simp) rfl) rfl
              exact g_not hS (wanted_no rfl rfl rfl eg (by decide)) rfl
            · go_light; intro listed a' w' hs hS hun hdep
              have eg : a'.eval (.tmp 187) = (.bool false) := hs.eval 11 _ 187 rfl (hdep ⟨11, .guard⟩ (by simp) rfl) rfl
              exact g_not hS (wanted_no rfl rfl rfl eg (by decide)) rfl
            · go_light; intro listed a' w' hs hS hun hdep
              have eg : a'.eval (.tmp 187) = (.bool false) := hs.eval 11 _ 187 rfl (hdep ⟨11, .guard⟩ (by simp) rfl) rfl
              exact g_not hS (wanted_no rfl rfl rfl eg (by decide)) rfl
            · go_light; intro listed a' w' hs hS hun hdep
              have eg : a'.eval (.tmp 187) = (.bool false) := hs.eval 11 _ 187 rfl (hdep ⟨11, .guard⟩ (by simp) rfl) rfl
              exact g_not hS (wanted_no rfl rfl rfl eg (by decide)) rfl
            · go_light; intro listed a' w' hs hS hun hdep
              have eg : a'.eval (.tmp 187) = (.bool false) := hs.eval 11 _ 187 rfl (hdep ⟨11, .guard⟩ (by simp) rfl) rfl
              exact g_not hS (wanted_no rfl rfl rfl eg (by decide)) rfl
            · go_light; intro listed a' w' hs hS hun hdep
              have eg : a'.eval (.tmp 202) = (undef) := hs.eval 26 _ 202 rfl (hdep ⟨26, .guard⟩ (by simp) rfl) rfl
              exact g_not hS (wanted_un rfl rfl rfl eg) rfl
            · go_light; intro listed a' w' hs hS hun hdep
              have eg : a'.eval (.tmp 202) = (undef) := hs.eval 26 _ 202 rfl (hdep ⟨26, .guard⟩ (by simp) rfl) rfl
              exact g_not hS (wanted_un rfl rfl rfl eg) rfl
            · go_light; intro listed a' w' hs hS hun hdep
              have eg : a'.eval (.tmp 202) = (undef) := hs.eval 26 _ 202 rfl (hdep ⟨26, .guard⟩ (by simp) rfl) rfl
              exact g_not hS (wanted_un rfl rfl rfl eg) rfl
            · go_light; intro listed a' w' hs hS hun hdep
              have eg : a'.eval (.tmp 202) = (undef) := hs.eval 26 _ 202 rfl (hdep ⟨26, .guard⟩ (by simp) rfl) rfl
              exact g_not hS (wanted_un rfl rfl rfl eg) rfl
            · go_light; intro listed a' w' hs hS hun hdep
              have eg : a'.eval (.tmp 202) = (undef) := hs.eval 26 _ 202 rfl (hdep ⟨26, .guard⟩ (by simp) rfl) rfl
              exact g_not hS (wanted_un rfl rfl rfl eg) rfl
            · go_light; intro listed a' w' hs hS hun hdep
              have eg : a'.eval (.tmp 202) = (undef) := hs.eval 26 _ 202 rfl (hdep ⟨26, .guard⟩ (by simp) rfl) rfl
              exact g_not hS (wanted_un rfl rfl rfl eg) rfl
            · go_light; intro listed a' w' hs hS hun hdep
              have eg : a'.eval (.tmp 202) = (undef) := hs.eval 26 _ 202 rfl (hdep ⟨26, .guard⟩ (by simp) rfl) rfl
              exact g_not hS (wanted_un rfl rfl rfl eg) rfl
            · go_light; intro listed a' w' hs hS hun hdep
              have eg : a'.eval (.tmp 202) = (undef) := hs.eval 26 _ 202 rfl (hdep ⟨26, .guard⟩ (by simp) rfl) rfl
              exact g_not hS (wanted_un rfl rfl rfl eg) rfl
            · go_light; intro listed a' w' hs hS hun hdep
              have eg : a'.eval (.tmp 202) = (undef) := hs.eval 26 _ 202 rfl (hdep ⟨26, .guard⟩ (by simp) rfl) rfl
              exact g_not hS (wanted_un rfl rfl rfl eg) rfl
            · go_light; intro listed a' w' hs hS hun hdep
              have eg : a'.eval (.tmp 202) = (undef) := hs.eval 26 _ 202 rfl (hdep ⟨26, .guard⟩ (by simp) rfl) rfl
              exact g_not hS (wanted_un rfl rfl rfl eg) rfl
            · go_light; intro listed a' w' hs hS hun hdep
              have eg : a'.eval (.tmp 202) = (undef) := hs.eval 26 _ 202 rfl (hdep ⟨26, .guard⟩ (by simp) rfl) rfl
              exact g_not hS (wanted_un rfl rfl rfl eg) rfl
            · go_light; intro listed a' w' hs hS hun hdep
              have eg : a'.eval (.tmp 202) = (undef) := hs.eval 26 _ 202 rfl (hdep ⟨26, .guard⟩ (by simp) rfl) rfl
              exact g_not hS (wanted_un rfl rfl rfl eg) rfl
            · go_light; intro listed a' w' hs hS hun hdep
              have eg : a'.eval (.tmp 202) = (undef) := hs.eval 26 _ 202 rfl (hdep ⟨26, .guard⟩ (by simp) rfl) rfl
              exact g_not hS (wanted_un rfl rfl rfl eg) rfl
            · go_light; intro listed a' w' hs hS hun hdep
              have eg : a'.eval (.tmp 202) = (undef) := hs.eval 26 _ 202 rfl (hdep ⟨26, .guard⟩ (by simp) rfl) rfl
              exact g_not hS (wanted_un rfl rfl rfl eg) rfl
            · go_light; intro listed a' w' hs hS hun hdep
              have eg : a'.eval (.tmp 202) = (undef) := hs.eval 26 _ 202 rfl (hdep ⟨26, .guard⟩ (by simp) rfl) rfl
              exact g_not hS (wanted_un rfl rfl rfl eg) rfl
            · go_light; intro listed a' w' hs hS hun hdep
              have eg : a'.eval (.tmp 217) = (undef) := hs.eval 41 _ 217 rfl (hdep ⟨41, .guard⟩ (by simp) rfl) rfl
              exact g_not hS (wanted_un rfl rfl rfl eg) rfl
            · go_light; intro listed a' w' hs hS hun hdep
              have eg : a'.eval (.tmp 217) = (undef) := hs.eval 41 _ 217 rfl (hdep ⟨41, .guard⟩ (by simp) rfl) rfl
              exact g_not hS (wanted_un rfl rfl rfl eg) rfl
            · go_light; intro listed a' w' hs hS hun hdep
              have eg : a'.eval (.tmp 217) = (undef) := hs.eval 41 _ 217 rfl (hdep ⟨41, .guard⟩ (by simp) rfl) rfl
              exact g_not hS (wanted_un rfl rfl rfl eg) rfl
            · go_light; intro listed a' w' hs hS hun hdep
              have eg : a'.eval (.tmp 217) = (undef) := hs.eval 41 _ 217 rfl (hdep ⟨41, .guard⟩ (by simp) rfl) rfl
              exact g_not hS (wanted_un rfl rfl rfl eg) rfl
            · go_light; intro listed a' w' hs hS hun hdep
              have eg : a'.eval (.tmp 217) = (undef) := hs.eval 41 _ 217 rfl (hdep ⟨41, .guard⟩ (by simp) rfl) rfl
              exact g_not hS (wanted_un rfl rfl rfl eg) rfl
            · go_light; intro listed a' w' hs hS hun hdep
              have eg : a'.eval (.tmp 217) = (undef) := hs.eval 41 _ 217 rfl (hdep ⟨41, .guard⟩ (by simp) rfl) rfl
              exact g_not hS (wanted_un rfl rfl rfl eg) rfl
            · go_light; intro listed a' w' hs hS hun hdep
              have eg : a'.eval (.tmp 217) = (undef) := hs.eval 41 _ 217 rfl (hdep ⟨41, .guard⟩ (by simp) rfl) rfl
              exact g_not hS (wanted_un rfl rfl rfl eg) rfl
            · go_light; intro listed a' w' hs hS hun hdep
              have eg : a'.eval (.tmp 217) = (undef) := hs.eval 41 _ 217 rfl (hdep ⟨41, .guard⟩ (by simp) rfl) rfl
              exact g_not hS (wanted_un rfl rfl rfl eg) rfl
            · go_light; intro listed a' w' hs hS hun hdep
              have eg : a'.eval (.tmp 217) = (undef) := hs.eval 41 _ 217 rfl (hdep ⟨41, .guard⟩ (by simp) rfl) rfl
              exact g_not hS (wanted_un rfl rfl rfl eg) rfl
            · go_light; intro listed a' w' hs hS hun hdep
              have eg : a'.eval (.tmp 217) = (undef) := hs.eval 41 _ 217 rfl (hdep ⟨41, .guard⟩ (by simp) rfl) rfl
              exact g_not hS (wanted_un rfl rfl rfl eg) rfl
            · go_light; intro listed a' w' hs hS hun hdep
              have eg : a'.eval (.tmp 217) = (undef) := hs.eval 41 _ 217 rfl (hdep ⟨41, .guard⟩ (by simp) rfl) rfl
              exact g_not hS (wanted_un rfl rfl rfl eg) rfl
            · go_light; intro listed a' w' hs hS hun hdep
              have eg : a'.eval (.tmp 217) = (undef) := hs.eval 41 _ 217 rfl (hdep ⟨41, .guard⟩ (by simp) rfl) rfl
              exact g_not hS (wanted_un rfl rfl rfl eg) rfl
            · go_light; intro listed a' w' hs hS hun hdep
              have eg : a'.eval (.tmp 217) = (undef) := hs.eval 41 _ 217 rfl (hdep ⟨41, .guard⟩ (by simp) rfl) rfl
              exact g_not hS (wanted_un rfl rfl rfl eg) rfl
            · go_light; intro listed a' w' hs hS hun hdep
              have eg : a'.eval (.tmp 217) = (undef) := hs.eval 41 _ 217 rfl (hdep ⟨41, .guard⟩ (by simp) rfl) rfl
              exact g_not hS (wanted_un rfl rfl rfl eg) rfl
            · go_light; intro listed a' w' hs hS hun hdep
              have eg : a'.eval (.tmp 202) = (undef) := hs.eval 26 _ 202 rfl (hdep ⟨26, .guard⟩ (by simp) rfl) rfl
              exact g_not hS (wanted_un rfl rfl rfl eg) rfl
            · go_light; intro listed a' w' hs hS hun hdep
              have eg : a'.eval (.tmp 187) = (.bool false) := hs.eval 11 _ 187 rfl (hdep ⟨11, .guard⟩ (by simp) rfl) rfl
              exact g_not hS (wanted_no rfl rfl rfl eg (by decide)) rfl
            · go_light; intro listed a' w' hs hS hun hdep
              have eg : a'.eval (.tmp 184) = (.bool false) := hs.eval 8 _ 184 rfl (hdep ⟨8, .guard⟩ (by simp) rfl) rfl
              have e187 : a'.eval (.tmp 187) = (.bool false) := hs.eval 11 _ 187 rfl (hdep ⟨11, .data⟩ (by simp) rfl) rfl
              have e233 : a'.eval (.tmp 233) = (undef) := hs.eval 57 _ 233 rfl (hdep ⟨57, .data⟩ (by simp) rfl) rfl
              exact g_val (.bool false) hS (wanted_yes rfl rfl rfl eg) (op_pick_f rfl e187 (BigFrame.eval_const a' _)) rfl
            · go_light; intro listed a' w' hs hS hun hdep
              have e184 : a'.eval (.tmp 184) = (.bool false) := hs.eval 8 _ 184 rfl (hdep ⟨8, .data⟩ (by simp) rfl) rfl
              have e234 : a'.eval (.tmp 234) = (.bool false) := hs.eval 58 _ 234 rfl (hdep ⟨58, .data⟩ (by simp) rfl) rfl
              exact g_val (.bool false) hS rfl (op_pick_f rfl e184 e234) rfl
            · intro vs w5 hlen hV listed hall hS
              obtain ⟨v0, v1, v2, v3, v4, v5, v6, v7, v8, v9, v10, v11, v12, v13, v14, v15, v16, v17, v18, v19, v20, v21, v22, v23, v24, v25, v26, v27, v28, v29, v30, v31, v32, v33, v34, v35, v36, v37, v38, v39, v40, v41, v42, v43, v44, v45, v46, v47, v48, v49, v50, v51, v52, v53, v54, v55, v56, v57, v58, v59, rfl⟩ := vs_60 vs (hlen.trans rfl)
              have q0 : v0 = .slice ro rs.length rc := hV 0 _ rfl
              have q1 : v1 = .slice (some ⟨xb, xo, none⟩) rs.length xc := hV 1 _ rfl
              have q2 : v2 = .int .i64 j := hV 2 _ rfl
              have q3 : v3 = .pointer (some ⟨xb, xo + j * 3, none⟩) := hV 3 _ rfl
              have q4 : v4 = .pointer (some ⟨xb, xo + j * 3, none⟩) := hV 4 _ rfl
              have q5 : v5 = .agg #[.int .u32 pa, .int .i64 pb] := hV 5 _ rfl
              have p6 : (fun v _ => ∃ k : Nat, v = .int .i64 k) v6 w5 := hV 6 _ rfl
              have q7 : v7 = .bool false := hV 7 _ rfl
              have q8 : v8 = .bool false := hV 8 _ rfl
              have q9 : v9 = .int .i64 j := hV 9 _ rfl
              have q10 : v10 = .bool false := hV 10 _ rfl
              have q11 : v11 = .bool false := hV 11 _ rfl
              have q12 : v12 = undef := hV 12 _ rfl
              have q13 : v13 = undef := hV 13 _ rfl
              have q14 : v14 = undef := hV 14 _ rfl
              have q15 : v15 = undef := hV 15 _ rfl
              have q16 : v16 = undef := hV 16 _ rfl
              have q17 : v17 = undef := hV 17 _ rfl
              have q18 : v18 = undef := hV 18 _ rfl
              have q19 : v19 = undef := hV 19 _ rfl
              have q20 : v20 = undef := hV 20 _ rfl
              have q21 : v21 = undef := hV 21 _ rfl
              have q22 : v22 = undef := hV 22 _ rfl
              have q23 : v23 = undef := hV 23 _ rfl
              have q24 : v24 = undef := hV 24 _ rfl
              have q25 : v25 = undef := hV 25 _ rfl
              have q26 : v26 = undef := hV 26 _ rfl
              have q27 : v27 = undef := hV 27 _ rfl
              have q28 : v28 = undef := hV 28 _ rfl
              have q29 : v29 = undef := hV 29 _ rfl
              have q30 : v30 = undef := hV 30 _ rfl
              have q31 : v31 = undef := hV 31 _ rfl
              have q32 : v32 = undef := hV 32 _ rfl
              have q33 : v33 = undef := hV 33 _ rfl
              have q34 : v34 = undef := hV 34 _ rfl
              have q35 : v35 = undef := hV 35 _ rfl
              have q36 : v36 = undef := hV 36 _ rfl
              have q37 : v37 = undef := hV 37 _ rfl
              have q38 : v38 = undef := hV 38 _ rfl
              have q39 : v39 = undef := hV 39 _ rfl
              have q40 : v40 = undef := hV 40 _ rfl
              have q41 : v41 = undef := hV 41 _ rfl
              have q42 : v42 = undef := hV 42 _ rfl
              have q43 : v43 = undef := hV 43 _ rfl
              have q44 : v44 = undef := hV 44 _ rfl
              have q45 : v45 = undef := hV 45 _ rfl
              have q46 : v46 = undef := hV 46 _ rfl
              have q47 : v47 = undef := hV 47 _ rfl
              have q48 : v48 = undef := hV 48 _ rfl
              have q49 : v49 = undef := hV 49 _ rfl
              have q50 : v50 = undef := hV 50 _ rfl
              have q51 : v51 = undef := hV 51 _ rfl
              have q52 : v52 = undef := hV 52 _ rfl
              have q53 : v53 = undef := hV 53 _ rfl
              have q54 : v54 = undef := hV 54 _ rfl
              have q55 : v55 = undef := hV 55 _ rfl
              have q56 : v56 = undef := hV 56 _ rfl
              have q57 : v57 = undef := hV 57 _ rfl
              have q58 : v58 = .bool false := hV 58 _ rfl
              have q59 : v59 = .bool false := hV 59 _ rfl
              have hbel : Below wr.heap.size wr w5 := hS
              subst q0 q1 q2 q3 q4 q5 q7 q8 q9 q10 q11 q12 q13 q14 q15 q16 q17 q18 q19 q20 q21 q22 q23 q24 q25 q26 q27 q28 q29 q30 q31 q32 q33 q34 q35 q36 q37 q38 q39 q40 q41 q42 q43 q44 q45 q46 q47 q48 q49 q50 q51 q52 q53 q54 q55 q56 q57 q58 q59
              clear hV hS hlen hall
              clear listed
              simp only [lays, Act.put, List.setIfInBounds_toArray, List.set_cons_zero, List.set_cons_succ]
              have hb5 := hbq.trans (hbel.mono hbq.size)
              clear hbel
              go_wp2
              go_roundw
              case rel => exact ⟨j + 1, by omega, by go_num, hb5⟩
              case measure => simp [intOf]; omega
          · obtain ⟨m, hm⟩ : ∃ m, j = m + 1 := ⟨j - 1, by omega⟩
            have H186 : Hid (decide ((0 : Int) < (j : Int)) = true) := Lib.hid (decide_eq_true (by omega))
            have hq186 : (0 : Int) < (j : Int) := by omega
            have HMW : Hid (IntKind.i64.wrap (m : Int) = (m : Int)) := Lib.hid (IntWalk.i64_in _ (by omega))
            have hLM := hL m (by omega)
            have hlt := pw_getD HA.out.ord (show m < j by omega) (by omega)
            clear hL
            generalize xs.getD j zR = rj at *
            generalize xs.getD m zR = rm at *
            obtain ⟨pa, pb, po⟩ := rj
            obtain ⟨oa, ob, oo⟩ := rm
            simp only [Rt.v] at hLJ hLM
            have LJ := Lib.hid hLJ
            have HGt := Lib.hid (fun w' (hb' : Below wr.heap.size wr w') => show Calls Try.prog 8 #[.slice ro rs.length rc, .agg #[.int .u32 pa, .int .i64 pb]] w' (fun e w'' => ∃ v, e = .returned v ∧ (∃ k : Nat, v = .int .i64 k) ∧ Below w'.heap.size w' w'') from (RGet_any ro rc rs pa pb w' (HPq.out.below hb').row.row (by omega)).mono fun e w'' hh => by
              obtain ⟨z, he, hz, hb⟩ := hh
              obtain ⟨k, hk⟩ := get_ix hmem hz
              exact ⟨.int .i64 z, he, ⟨k, by rw [hk]⟩, hb⟩)
            rcases hlt with hlt | ⟨hlt, hbt⟩
            · simp only [] at hlt
              have H201 : Hid (decide ((pa : Int) < (oa : Int)) = false) := Lib.hid (decide_eq_false (by omega))
              have hq201 : ¬ ((pa : Int) < (oa : Int)) := by omega
              have hn201 : ¬ (pa < oa) := by omega
              have hn216 : ¬ (oa = pa) := by omega
              have hq216 : ¬ ((oa : Int) = (pa : Int)) := by omega
              have H216 : Hid (((oa : Int) == (pa : Int)) = false) := Lib.hid (beq_eq_false_iff_ne.2 hq216)
              have H231 := H201
              have LM := Lib.hid hLM
              clear hLJ hLM hmem HPq
              go_upto_region 45 with fail
              refine region_gen (VG wr.heap.size [.val (.slice ro rs.length rc), .val (.slice (some ⟨xb, xo, none⟩) rs.length xc), .val (.int .i64 j), .val (.pointer (some ⟨xb, xo + j * 3, none⟩)), .val (.pointer (some ⟨xb, xo + j * 3, none⟩)), .val (.agg #[.int .u32 pa, .int .i64 pb]), .pr (fun v _ => ∃ k : Nat, v = .int .i64 k) (fun v w w' h _ => h), .val (.bool false), .val (.bool false), .val (.int .i64 j), .val (.bool true), .val (.bool true), .val (.slice (some ⟨xb, xo, none⟩) rs.length xc), .val (.int .i64 j), .val (.int .i64 m), .val (.pointer (some ⟨xb, xo + m * 3, none⟩)), .val (.pointer (some ⟨xb, xo + m * 3, none⟩)), .val (.pointer (some ⟨xb, xo + m * 3, none⟩)), .val (.int .u32 oa), .val (.slice (some ⟨xb, xo, none⟩) rs.length xc), .val (.int .i64 j), .val (.pointer (some ⟨xb, xo + j * 3, none⟩)), .val (.pointer (some ⟨xb, xo + j * 3, none⟩)), .val (.pointer (some ⟨xb, xo + j * 3, none⟩)), .val (.int .u32 pa), .val (.bool false), .val (.bool false), .val (.slice (some ⟨xb, xo, none⟩) rs.length xc), .val (.int .i64 j), .val (.int .i64 m), .val (.pointer (some ⟨xb, xo + m * 3, none⟩)), .val (.pointer (some ⟨xb, xo + m * 3, none⟩)), .val (.pointer (some ⟨xb, xo + m * 3, none⟩)), .val (.int .u32 oa), .val (.slice (some ⟨xb, xo, none⟩) rs.length xc), .val (.int .i64 j), .val (.pointer (some ⟨xb, xo + j * 3, none⟩)), .val (.pointer (some ⟨xb, xo + j * 3, none⟩)), .val (.pointer (some ⟨xb, xo + j * 3, none⟩)), .val (.int .u32 pa), .val (.bool false), .val (.bool false), .val (undef), .val (undef), .val (undef), .val (undef), .val (undef), .val (undef), .val (undef), .val (undef), .val (undef), .val (undef), .val (undef), .val (undef), .val (undef), .val (undef), .val (.bool false), .val (.bool false), .val (.bool false), .val (.bool false)]) (BS wr) (by kernel_rfl) (by kernel_rfl) (Below.refl _ _).drew ⟨?_, ?_, ?_, ?_, ?_, ?_, ?_, ?_, ?_, ?_, ?_, ?_, ?_, ?_, ?_, ?_, ?_, ?_, ?_, ?_, ?_, ?_, ?_, ?_, ?_, ?_, ?_, ?_, ?_, ?_, ?_, ?_, ?_, ?_, ?_, ?_, ?_, ?_, ?_, ?_, ?_, ?_, ?_, ?_, ?_, ?_, ?_, ?_, ?_, ?_, ?_, ?_, ?_, ?_, ?_, ?_, ?_, ?_, ?_, ?_, trivial⟩ ?_
              · go_light; intro listed a' w' hs hS hun hdep
                have e4 : a'.eval (.tmp 4) = .slice ro rs.length rc := (hs.out 4 (by kernel_rfl)).trans (rfl)
                exact g_val (.slice ro rs.length rc) hS rfl (op_move rfl e4) rfl
              · go_light; intro listed a' w' hs hS hun hdep
                have e16 : a'.eval (.tmp 16) = .slice (some ⟨xb, xo, none⟩) rs.length xc := (hs.out 16 (by kernel_rfl)).trans (rfl)
                exact g_val (.slice (some ⟨xb, xo, none⟩) rs.length xc) hS rfl (op_move rfl e16) rfl
              · go_light; intro listed a' w' hs hS hun hdep
                have e17 : a'.eval (.tmp 17) = .int .i64 j := (hs.out 17 (by kernel_rfl)).trans (rfl)
                exact g_val (.int .i64 j) hS rfl (op_move rfl e17) rfl
              · go_light; intro listed a' w' hs hS hun hdep
                have e177 : a'.eval (.tmp 177) = (.slice (some ⟨xb, xo, none⟩) rs.length xc) := hs.eval 1 _ 177 rfl (hdep ⟨1, .data⟩ (by simp) rfl) rfl
                have e178 : a'.eval (.tmp 178) = (.int .i64 j) := hs.eval 2 _ 178 rfl (hdep ⟨2, .data⟩ (by simp) rfl) rfl
                exact g_val (.pointer (some ⟨xb, xo + j * 3, none⟩)) hS rfl (op_ixa rfl e177 e178 Try.underlying26 (by kernel_rfl) (by omega)) rfl
              · go_light; intro listed a' w' hs hS hun hdep
                have e179 : a'.eval (.tmp 179) = (.pointer (some ⟨xb, xo + j * 3, none⟩)) := hs.eval 3 _ 179 rfl (hdep ⟨3, .data⟩ (by simp) rfl) rfl
                refine g_val (.pointer (some ⟨xb, xo + j * 3, none⟩)) hS rfl ?_ rfl
                have hcn := BigFrame.eval_const a'; have hfn := BigFrame.eval_func a'; clear hs hdep; generalize a'.eval = ev at *; go_simp
              · go_light; intro listed a' w' hs hS hun hdep
                have e180 : a'.eval (.tmp 180) = (.pointer (some ⟨xb, xo + j * 3, none⟩)) := hs.eval 4 _ 180 rfl (hdep ⟨4, .data⟩ (by simp) rfl) rfl
                exact g_val (.agg #[.int .u32 pa, .int .i64 pb]) hS rfl (op_ld [.int .u32 pa, .int .i64 pb] rfl e180 (LJ.out.below hS) 0 (by first | rfl | simp) rfl Try.underlying29 rfl (by kernel_rfl)) rfl
              · go_light; intro listed a' w' hs hS hun hdep
                have e176 : a'.eval (.tmp 176) = (.slice ro rs.length rc) := hs.eval 0 _ 176 rfl (hdep ⟨0, .data⟩ (by simp) rfl) rfl
                have e181 : a'.eval (.tmp 181) = (.agg #[.int .u32 pa, .int .i64 pb]) := hs.eval 5 _ 181 rfl (hdep ⟨5, .data⟩ (by simp) rfl) rfl
                refine g_call 8 #[.slice ro rs.length rc, .agg #[.int .u32 pa, .int .i64 pb]] hS rfl ?_ ?_
                · have hcn := BigFrame.eval_const a'; have hfn := BigFrame.eval_func a'; clear hs hdep; generalize a'.eval = ev at *; go_simp
                · exact c_pr (HGt.out w' hS) rfl
              · go_light; intro listed a' w' hs hS hun hdep
                have r182 : (fun v _ => ∃ k : Nat, v = .int .i64 k) (a'.eval (.tmp 182)) w' := hs.eval 6 _ 182 rfl (hdep ⟨6, .data⟩ (by simp) rfl) rfl
                obtain ⟨kk, e182⟩ := r182
                have hkk : ¬ ((kk : Int) < 0) := by omega
                refine g_val (.bool false) hS rfl ?_ rfl
                have hcn := BigFrame.eval_const a'; have hfn := BigFrame.eval_func a'; clear hs hdep; generalize a'.eval = ev at *; go_simp; try first | omega | (simp; omega)
              · go_light; intro listed a' w' hs hS hun hdep
                have e183 : a'.eval (.tmp 183) = (.bool false) := hs.eval 7 _ 183 rfl (hdep ⟨7, .data⟩ (by simp) rfl) rfl
                exact g_val (.bool false) hS rfl (op_move rfl e183) rfl
              · go_light; intro listed a' w' hs hS hun hdep
                have eg : a'.eval (.tmp 184) = (.bool false) := hs.eval 8 _ 184 rfl (hdep ⟨8, .guard⟩ (by simp) rfl) rfl
                have e17 : a'.eval (.tmp 17) = .int .i64 j := (hs.out 17 (by kernel_rfl)).trans (rfl)
                exact g_val (.int .i64 j) hS (wanted_yes rfl rfl rfl eg) (op_move rfl e17) rfl
              · go_light; intro listed a' w' hs hS hun hdep
                have eg : a'.eval (.tmp 184) = (.bool false) := hs.eval 8 _ 184 rfl (hdep ⟨8, .guard⟩ (by simp) rfl) rfl
                have e185 : a'.eval (.tmp 185) = (.int .i64 j) := hs.eval 9 _ 185 rfl (hdep ⟨9, .data⟩ (by simp) rfl) rfl
                refine g_val (.bool true) hS (wanted_yes rfl rfl rfl eg) ?_ rfl
                have hcn := BigFrame.eval_const a'; have hfn := BigFrame.eval_func a'; clear hs hdep; generalize a'.eval = ev at *; go_simp; try first | exact H186.out | omega | (simp; omega)
              · go_light; intro listed a' w' hs hS hun hdep
                have eg : a'.eval (.tmp 184) = (.bool false) := hs.eval 8 _ 184 rfl (hdep ⟨8, .guard⟩ (by simp) rfl) rfl
                have e186 : a'.eval (.tmp 186) = (.bool true) := hs.eval 10 _ 186 rfl (hdep ⟨10, .data⟩ (by simp) rfl) rfl
                exact g_val (.bool true) hS (wanted_yes rfl rfl rfl eg) (op_move rfl e186) rfl
              · go_light; intro listed a' w' hs hS hun hdep
                have eg : a'.eval (.tmp 187) = (.bool true) := hs.eval 11 _ 187 rfl (hdep ⟨11, .guard⟩ (by simp) rfl) rfl
                have e16 : a'.eval (.tmp 16) = .slice (some ⟨xb, xo, none⟩) rs.length xc := (hs.out 16 (by kernel_rfl)).trans (rfl)
                exact g_val (.slice (some ⟨xb, xo, none⟩) rs.length xc) hS (wanted_yes rfl rfl rfl eg) (op_move rfl e16) rfl
              · go_light; intro listed a' w' hs hS hun hdep
                have eg : a'.eval (.tmp 187) = (.bool true) := hs.eval 11 _ 187 rfl (hdep ⟨11, .guard⟩ (by simp) rfl) rfl
                have e17 : a'.eval (.tmp 17) = .int .i64 j := (hs.out 17 (by kernel_rfl)).trans (rfl)
                exact g_val (.int .i64 j) hS (wanted_yes rfl rfl rfl eg) (op_move rfl e17) rfl
              · go_light; intro listed a' w' hs hS hun hdep
                have eg : a'.eval (.tmp 187) = (.bool true) := hs.eval 11 _ 187 rfl (hdep ⟨11, .guard⟩ (by simp) rfl) rfl
                have e189 : a'.eval (.tmp 189) = (.int .i64 j) := hs.eval 13 _ 189 rfl (hdep ⟨13, .data⟩ (by simp) rfl) rfl
                refine g_val (.int .i64 m) hS (wanted_yes rfl rfl rfl eg) ?_ rfl
                have hcn := BigFrame.eval_const a'; have hfn := BigFrame.eval_func a'; clear hs hdep; generalize a'.eval = ev at *; go_simp; try rw [show ((j : Int) - 1) = (m : Int) by omega]
                exact HMW.out
              · go_light; intro listed a' w' hs hS hun hdep
                have eg : a'.eval (.tmp 187) = (.bool true) := hs.eval 11 _ 187 rfl (hdep ⟨11, .guard⟩ (by simp) rfl) rfl
                have e188 : a'.eval (.tmp 188) = (.slice (some ⟨xb, xo, none⟩) rs.length xc) := hs.eval 12 _ 188 rfl (hdep ⟨12, .data⟩ (by simp) rfl) rfl
                have e190 : a'.eval (.tmp 190) = (.int .i64 m) := hs.eval 14 _ 190 rfl (hdep ⟨14, .data⟩ (by simp) rfl) rfl
                exact g_val (.pointer (some ⟨xb, xo + m * 3, none⟩)) hS (wanted_yes rfl rfl rfl eg) (op_ixa rfl e188 e190 Try.underlying26 (by kernel_rfl) (by omega)) rfl
              · go_light; intro listed a' w' hs hS hun hdep
                have eg : a'.eval (.tmp 187) = (.bool true) := hs.eval 11 _ 187 rfl (hdep ⟨11, .guard⟩ (by simp) rfl) rfl
                have e191 : a'.eval (.tmp 191) = (.pointer (some ⟨xb, xo + m * 3, none⟩)) := hs.eval 15 _ 191 rfl (hdep ⟨15, .data⟩ (by simp) rfl) rfl
                refine g_val (.pointer (some ⟨xb, xo + m * 3, none⟩)) hS (wanted_yes rfl rfl rfl eg) ?_ rfl
                have hcn := BigFrame.eval_const a'; have hfn := BigFrame.eval_func a'; clear hs hdep; generalize a'.eval = ev at *; go_simp
              · go_light; intro listed a' w' hs hS hun hdep
                have eg : a'.eval (.tmp 187) = (.bool true) := hs.eval 11 _ 187 rfl (hdep ⟨11, .guard⟩ (by simp) rfl) rfl
                have e192 : a'.eval (.tmp 192) = (.pointer (some ⟨xb, xo + m * 3, none⟩)) := hs.eval 16 _ 192 rfl (hdep ⟨16, .data⟩ (by simp) rfl) rfl
                refine g_val (.pointer (some ⟨xb, xo + m * 3, none⟩)) hS (wanted_yes rfl rfl rfl eg) ?_ rfl
                have hcn := BigFrame.eval_const a'; have hfn := BigFrame.eval_func a'; clear hs hdep; generalize a'.eval = ev at *; go_simp
              · go_light; intro listed a' w' hs hS hun hdep
                have eg : a'.eval (.tmp 187) = (.bool true) := hs.eval 11 _ 187 rfl (hdep ⟨11, .guard⟩ (by simp) rfl) rfl
                have e193 : a'.eval (.tmp 193) = (.pointer (some ⟨xb, xo + m * 3, none⟩)) := hs.eval 17 _ 193 rfl (hdep ⟨17, .data⟩ (by simp) rfl) rfl
                exact g_val (.int .u32 oa) hS (wanted_yes rfl rfl rfl eg) (op_ld1 (.int .u32 oa) rfl e193 (LM.out.below hS) 0 (by first | rfl | simp) rfl Try.underlying27 rfl) rfl
              · go_light; intro listed a' w' hs hS hun hdep
                have eg : a'.eval (.tmp 187) = (.bool true) := hs.eval 11 _ 187 rfl (hdep ⟨11, .guard⟩ (by simp) rfl) rfl
                have e16 : a'.eval (.tmp 16) = .slice (some ⟨xb, xo, none⟩) rs.length xc := (hs.out 16 (by kernel_rfl)).trans (rfl)
                exact g_val (.slice (some ⟨xb, xo, none⟩) rs.length xc) hS (wanted_yes rfl rfl rfl eg) (op_move rfl e16) rfl
              · go_light; intro listed a' w' hs hS hun hdep
                have eg : a'.eval (.tmp 187) = (.bool true) := hs.eval 11 _ 187 rfl (hdep ⟨11, .guard⟩ (by simp) rfl) rfl
                have e17 : a'.eval (.tmp 17) = .int .i64 j := (hs.out 17 (by kernel_rfl)).trans (rfl)
                exact g_val (.int .i64 j) hS (wanted_yes rfl rfl rfl eg) (op_move rfl e17) rfl
              · go_light; intro listed a' w' hs hS hun hdep
                have eg : a'.eval (.tmp 187) = (.bool true) := hs.eval 11 _ 187 rfl (hdep ⟨11, .guard⟩ (by simp) rfl) rfl
                have e195 : a'.eval (.tmp 195) = (.slice (some ⟨xb, xo, none⟩) rs.length xc) := hs.eval 19 _ 195 rfl (hdep ⟨19, .data⟩ (by simp) rfl) rfl
                have e196 : a'.eval (.tmp 196) = (.int .i64 j) := hs.eval 20 _ 196 rfl (hdep ⟨20, .data⟩ (by simp) rfl) rfl
                exact g_val (.pointer (some ⟨xb, xo + j * 3, none⟩)) hS (wanted_yes rfl rfl rfl eg) (op_ixa rfl e195 e196 Try.underlying26 (by kernel_rfl) (by omega)) rfl
              · go_light; intro listed a' w' hs hS hun hdep
                have eg : a'.eval (.tmp 187) = (.bool true) := hs.eval 11 _ 187 rfl (hdep ⟨11, .guard⟩ (by simp) rfl) rfl
                have e197 : a'.eval (.tmp 197) = (.pointer (some ⟨xb, xo + j * 3, none⟩)) := hs.eval 21 _ 197 rfl (hdep ⟨21, .data⟩ (by simp) rfl) rfl
                refine g_val (.pointer (some ⟨xb, xo + j * 3, none⟩)) hS (wanted_yes rfl rfl rfl eg) ?_ rfl
                have hcn := BigFrame.eval_const a'; have hfn := BigFrame.eval_func a'; clear hs hdep; generalize a'.eval = ev at *; go_simp
              · go_light; intro listed a' w' hs hS hun hdep
                have eg : a'.eval (.tmp 187) = (.bool true) := hs.eval 11 _ 187 rfl (hdep ⟨11, .guard⟩ (by simp) rfl) rfl
                have e198 : a'.eval (.tmp 198) = (.pointer (some ⟨xb, xo + j * 3, none⟩)) := hs.eval 22 _ 198 rfl (hdep ⟨22, .data⟩ (by simp) rfl) rfl
                refine g_val (.pointer (some ⟨xb, xo + j * 3, none⟩)) hS (wanted_yes rfl rfl rfl eg) ?_ rfl
                have hcn := BigFrame.eval_const a'; have hfn := BigFrame.eval_func a'; clear hs hdep; generalize a'.eval = ev at *; go_simp
              · go_light; intro listed a' w' hs hS hun hdep
                have eg : a'.eval (.tmp 187) = (.bool true) := hs.eval 11 _ 187 rfl (hdep ⟨11, .guard⟩ (by simp) rfl) rfl
                have e199 : a'.eval (.tmp 199) = (.pointer (some ⟨xb, xo + j * 3, none⟩)) := hs.eval 23 _ 199 rfl (hdep ⟨23, .data⟩ (by simp) rfl) rfl
                exact g_val (.int .u32 pa) hS (wanted_yes rfl rfl rfl eg) (op_ld1 (.int .u32 pa) rfl e199 (LJ.out.below hS) 0 (by first | rfl | simp) rfl Try.underlying27 rfl) rfl
              · go_light; intro listed a' w' hs hS hun hdep
                have eg : a'.eval (.tmp 187) = (.bool true) := hs.eval 11 _ 187 rfl (hdep ⟨11, .guard⟩ (by simp) rfl) rfl
                have e194 : a'.eval (.tmp 194) = (.int .u32 oa) := hs.eval 18 _ 194 rfl (hdep ⟨18, .data⟩ (by simp) rfl) rfl
                have e200 : a'.eval (.tmp 200) = (.int .u32 pa) := hs.eval 24 _ 200 rfl (hdep ⟨24, .data⟩ (by simp) rfl) rfl
                refine g_val (.bool false) hS (wanted_yes rfl rfl rfl eg) ?_ rfl
                have hcn := BigFrame.eval_const a'; have hfn := BigFrame.eval_func a'; clear hs hdep; generalize a'.eval = ev at *; go_simp; try first | exact H201.out | omega | (simp; omega)
              · go_light; intro listed a' w' hs hS hun hdep
                have eg : a'.eval (.tmp 187) = (.bool true) := hs.eval 11 _ 187 rfl (hdep ⟨11, .guard⟩ (by simp) rfl) rfl
                have e201 : a'.eval (.tmp 201) = (.bool false) := hs.eval 25 _ 201 rfl (hdep ⟨25, .data⟩ (by simp) rfl) rfl
                exact g_val (.bool false) hS (wanted_yes rfl rfl rfl eg) (op_move rfl e201) rfl
              · go_light; intro listed a' w' hs hS hun hdep
                have eg : a'.eval (.tmp 202) = (.bool false) := hs.eval 26 _ 202 rfl (hdep ⟨26, .guard⟩ (by simp) rfl) rfl
                have e16 : a'.eval (.tmp 16) = .slice (some ⟨xb, xo, none⟩) rs.length xc := (hs.out 16 (by kernel_rfl)).trans (rfl)
                exact g_val (.slice (some ⟨xb, xo, none⟩) rs.length xc) hS (wanted_yes rfl rfl rfl eg) (op_move rfl e16) rfl
              · go_light; intro listed a' w' hs hS hun hdep
                have eg : a'.eval (.tmp 202) = (.bool false) := hs.eval 26 _ 202 rfl (hdep ⟨26, .guard⟩ (by simp) rfl) rfl
                have e17 : a'.eval (.tmp 17) = .int .i64 j := (hs.out 17 (by kernel_rfl)).trans (rfl)
                exact g_val (.int .i64 j) hS (wanted_yes rfl rfl rfl eg) (op_move rfl e17) rfl
              · go_light; intro listed a' w' hs hS hun hdep
                have eg : a'.eval (.tmp 202) = (.bool false) := hs.eval 26 _ 202 rfl (hdep ⟨26, .guard⟩ (by simp) rfl) rfl
                have e204 : a'.eval (.tmp 204) = (.int .i64 j) := hs.eval 28 _ 204 rfl (hdep ⟨28, .data⟩ (by simp) rfl) rfl
                refine g_val (.int .i64 m) hS (wanted_yes rfl rfl rfl eg) ?_ rfl
                have hcn := BigFrame.eval_const a'; have hfn := BigFrame.eval_func a'; clear hs hdep; generalize a'.eval = ev at *; go_simp; try rw [show ((j : Int) - 1) = (m : Int) by omega]
                exact HMW.out
              · go_light; intro listed a' w' hs hS hun hdep
                have eg : a'.eval (.tmp 202) = (.bool false) := hs.eval 26 _ 202 rfl (hdep ⟨26, .guard⟩ (by simp) rfl) rfl
                have e203 : a'.eval (.tmp 203) = (.slice (some ⟨xb, xo, none⟩) rs.length xc) := hs.eval 27 _ 203 rfl (hdep ⟨27, .data⟩ (by simp) rfl) rfl
                have e205 : a'.eval (.tmp 205) = (.int .i64 m) := hs.eval 29 _ 205 rfl (hdep ⟨29, .data⟩ (by simp) rfl) rfl
                exact g_val (.pointer (some ⟨xb, xo + m * 3, none⟩)) hS (wanted_yes rfl rfl rfl eg) (op_ixa rfl e203 e205 Try.underlying26 (by kernel_rfl) (by omega)) rfl
              · go_light; intro listed a' w' hs hS hun hdep
                have eg : a'.eval (.tmp 202) = (.bool false) := hs.eval 26 _ 202 rfl (hdep ⟨26, .guard⟩ (by simp) rfl) rfl
                have e206 : a'.eval (.tmp 206) = (.pointer (some ⟨xb, xo + m * 3, none⟩)) := hs.eval 30 _ 206 rfl (hdep ⟨30, .data⟩ (by simp) rfl) rfl
                refine g_val (.pointer (some ⟨xb, xo + m * 3, none⟩)) hS (wanted_yes rfl rfl rfl eg) ?_ rfl
                have hcn := BigFrame.eval_const a'; have hfn := BigFrame.eval_func a'; clear hs hdep; generalize a'.eval = ev at *; go_simp
              · go_light; intro listed a' w' hs hS hun hdep
                have eg : a'.eval (.tmp 202) = (.bool false) := hs.eval 26 _ 202 rfl (hdep ⟨26, .guard⟩ (by simp) rfl) rfl
                have e207 : a'.eval (.tmp 207) = (.pointer (some ⟨xb, xo + m * 3, none⟩)) := hs.eval 31 _ 207 rfl (hdep ⟨31, .data⟩ (by simp) rfl) rfl
                refine g_val (.pointer (some ⟨xb, xo + m * 3, none⟩)) hS (wanted_yes rfl rfl rfl eg) ?_ rfl
                have hcn := BigFrame.eval_const a'; have hfn := BigFrame.eval_func a'; clear hs hdep; generalize a'.eval = ev at *; go_simp
              · go_light; intro listed a' w' hs hS hun hdep
                have eg : a'.eval (.tmp 202) = (.bool false) := hs.eval 26 _ 202 rfl (hdep ⟨26, .guard⟩ (by simp) rfl) rfl
                have e208 : a'.eval (.tmp 208) = (.pointer (some ⟨xb, xo + m * 3, none⟩)) := hs.eval 32 _ 208 rfl (hdep ⟨32, .data⟩ (by simp) rfl) rfl
                exact g_val (.int .u32 oa) hS (wanted_yes rfl rfl rfl eg) (op_ld1 (.int .u32 oa) rfl e208 (LM.out.below hS) 0 (by first | rfl | simp) rfl Try.underlying27 rfl) rfl
              · go_light; intro listed a' w' hs hS hun hdep
                have eg : a'.eval (.tmp 202) = (.bool false) := hs.eval 26 _ 202 rfl (hdep ⟨26, .guard⟩ (by simp) rfl) rfl
                have e16 : a'.eval (.tmp 16) = .slice (some ⟨xb, xo, none⟩) rs.length xc := (hs.out 16 (by kernel_rfl)).trans (rfl)
                exact g_val (.slice (some ⟨xb, xo, none⟩) rs.length xc) hS (wanted_yes rfl rfl rfl eg) (op_move rfl e16) rfl
              · go_light; intro listed a' w' hs hS hun hdep
                have eg : a'.eval (.tmp 202) = (.bool false) := hs.eval 26 _ 202 rfl (hdep ⟨26, .guard⟩ (by simp) rfl) rfl
                have e17 : a'.eval (.tmp 17) = .int .i64 j := (hs.out 17 (by kernel_rfl)).trans (rfl)
                exact g_val (.int .i64 j) hS (wanted_yes rfl rfl rfl eg) (op_move rfl e17) rfl
              · go_light; intro listed a' w' hs hS hun hdep
                have eg : a'.eval (.tmp 202) = (.bool false) := hs.eval 26 _ 202 rfl (hdep ⟨26, .guard⟩ (by simp) rfl) rfl
                have e210 : a'.eval (.tmp 210) = (.slice (some ⟨xb, xo, none⟩) rs.length xc) := hs.eval 34 _ 210 rfl (hdep ⟨34, .data⟩ (by simp) rfl) rfl
                have e211 : a'.eval (.tmp 211) = (.int .i64 j) := hs.eval 35 _ 211 rfl (hdep ⟨35, .data⟩ (by simp) rfl) rfl
                exact g_val (.pointer (some ⟨xb, xo + j * 3, none⟩)) hS (wanted_yes rfl rfl rfl eg) (op_ixa rfl e210 e211 Try.underlying26 (by kernel_rfl) (by omega)) rfl
              · go_light; intro listed a' w' hs hS hun hdep
                have eg : a'.eval (.tmp 202) = (.bool false) := hs.eval 26 _ 202 rfl (hdep ⟨26, .guard⟩ (by simp) rfl) rfl
                have e212 : a'.eval (.tmp 212) = (.pointer (some ⟨xb, xo + j * 3, none⟩)) := hs.eval 36 _ 212 rfl (hdep ⟨36, .data⟩ (by simp) rfl) rfl
                refine g_val (.pointer (some ⟨xb, xo + j * 3, none⟩)) hS (wanted_yes rfl rfl rfl eg) ?_ rfl
                have hcn := BigFrame.eval_const a'; have hfn := BigFrame.eval_func a'; clear hs hdep; generalize a'.eval = ev at *; go_simp
              · go_light; intro listed a' w' hs hS hun hdep
                have eg : a'.eval (.tmp 202) = (.bool false) := hs.eval 26 _ 202 rfl (hdep ⟨26, .guard⟩ (by simp) rfl) rfl
                have e213 : a'.eval (.tmp 213) = (.pointer (some ⟨xb, xo + j * 3, none⟩)) := hs.eval 37 _ 213 rfl (hdep ⟨37, .data⟩ (by simp) rfl) rfl
                refine g_val (.pointer (some ⟨xb, xo + j * 3, none⟩)) hS (wanted_yes rfl rfl rfl eg) ?_ rfl
                have hcn := BigFrame.eval_const a'; have hfn := BigFrame.eval_func a'; clear hs hdep; generalize a'.eval = ev at *; go_simp
              · go_light; intro listed a' w' hs hS hun hdep
                have eg : a'.eval (.tmp 202) = (.bool false) := hs.eval 26 _ 202 rfl (hdep ⟨26, .guard⟩ (by simp) rfl) rfl
                have e214 : a'.eval (.tmp 214) = (.pointer (some ⟨xb, xo + j * 3, none⟩)) := hs.eval 38 _ 214 rfl (hdep ⟨38, .data⟩ (by simp) rfl) rfl
                exact g_val (.int .u32 pa) hS (wanted_yes rfl rfl rfl eg) (op_ld1 (.int .u32 pa) rfl e214 (LJ.out.below hS) 0 (by first | rfl | simp) rfl Try.underlying27 rfl) rfl
              · go_light; intro listed a' w' hs hS hun hdep
                have eg : a'.eval (.tmp 202) = (.bool false) := hs.eval 26 _ 202 rfl (hdep ⟨26, .guard⟩ (by simp) rfl) rfl
                have e209 : a'.eval (.tmp 209) = (.int .u32 oa) := hs.eval 33 _ 209 rfl (hdep ⟨33, .data⟩ (by simp) rfl) rfl
                have e215 : a'.eval (.tmp 215) = (.int .u32 pa) := hs.eval 39 _ 215 rfl (hdep ⟨39, .data⟩ (by simp) rfl) rfl
                refine g_val (.bool false) hS (wanted_yes rfl rfl rfl eg) ?_ rfl
                have hcn := BigFrame.eval_const a'; have hfn := BigFrame.eval_func a'; clear hs hdep; generalize a'.eval = ev at *; go_simp; try first | exact H216.out | omega | (simp; omega)
              · go_light; intro listed a' w' hs hS hun hdep
                have eg : a'.eval (.tmp 202) = (.bool false) := hs.eval 26 _ 202 rfl (hdep ⟨26, .guard⟩ (by simp) rfl) rfl
                have e216 : a'.eval (.tmp 216) = (.bool false) := hs.eval 40 _ 216 rfl (hdep ⟨40, .data⟩ (by simp) rfl) rfl
                exact g_val (.bool false) hS (wanted_yes rfl rfl rfl eg) (op_move rfl e216) rfl
              · go_light; intro listed a' w' hs hS hun hdep
                have eg : a'.eval (.tmp 217) = (.bool false) := hs.eval 41 _ 217 rfl (hdep ⟨41, .guard⟩ (by simp) rfl) rfl
                exact g_not hS (wanted_no rfl rfl rfl eg (by decide)) rfl
              · go_light; intro listed a' w' hs hS hun hdep
                have eg : a'.eval (.tmp 217) = (.bool false) := hs.eval 41 _ 217 rfl (hdep ⟨41, .guard⟩ (by simp) rfl) rfl
                exact g_not hS (wanted_no rfl rfl rfl eg (by decide)) rfl
              · go_light; intro listed a' w' hs hS hun hdep
                have eg : a'.eval (.tmp 217) = (.bool false) := hs.eval 41 _ 217 rfl (hdep ⟨41, .guard⟩ (by simp) rfl) rfl
                exact g_not hS (wanted_no rfl rfl rfl eg (by decide)) rfl
              · go_light; intro listed a' w' hs hS hun hdep
                have eg : a'.eval (.tmp 217) = (.bool false) := hs.eval 41 _ 217 rfl (hdep ⟨41, .guard⟩ (by simp) rfl) rfl
                exact g_not hS (wanted_no rfl rfl rfl eg (by decide)) rfl
              · go_light; intro listed a' w' hs hS hun hdep
                have eg : a'.eval (.tmp 217) = (.bool false) := hs.eval 41 _ 217 rfl (hdep ⟨41, .guard⟩ (by simp) rfl) rfl
                exact g_not hS (wanted_no rfl rfl rfl eg (by decide)) rfl
              · go_light; intro listed a' w' hs hS hun hdep
                have eg : a'.eval (.tmp 217) = (.bool false) := hs.eval 41 _ 217 rfl (hdep ⟨41, .guard⟩ (by simp) rfl) rfl
                exact g_not hS (wanted_no rfl rfl rfl eg (by decide)) rfl
              · go_light; intro listed a' w' hs hS hun hdep
                have eg : a'.eval (.tmp 217) = (.bool false) := hs.eval 41 _ 217 rfl (hdep ⟨41, .guard⟩ (by simp) rfl) rfl
                exact g_not hS (wanted_no rfl rfl rfl eg (by decide)) rfl
              · go_light; intro listed a' w' hs hS hun hdep
                have eg : a'.eval (.tmp 217) = (.bool false) := hs.eval 41 _ 217 rfl (hdep ⟨41, .guard⟩ (by simp) rfl) rfl
                exact g_not hS (wanted_no rfl rfl rfl eg (by decide)) rfl
              · go_light; intro listed a' w' hs hS hun hdep
                have eg : a'.eval (.tmp 217) = (.bool false) := hs.eval 41 _ 217 rfl (hdep ⟨41, .guard⟩ (by simp) rfl) rfl
                exact g_not hS (wanted_no rfl rfl rfl eg (by decide)) rfl
              · go_light; intro listed a' w' hs hS hun hdep
                have eg : a'.eval (.tmp 217) = (.bool false) := hs.eval 41 _ 217 rfl (hdep ⟨41, .guard⟩ (by simp) rfl) rfl
                exact g_not hS (wanted_no rfl rfl rfl eg (by decide)) rfl
              · go_light; intro listed a' w' hs hS hun hdep
                have eg : a'.eval (.tmp 217) = (.bool false) := hs.eval 41 _ 217 rfl (hdep ⟨41, .guard⟩ (by simp) rfl) rfl
                exact g_not hS (wanted_no rfl rfl rfl eg (by decide)) rfl
              · go_light; intro listed a' w' hs hS hun hdep
                have eg : a'.eval (.tmp 217) = (.bool false) := hs.eval 41 _ 217 rfl (hdep ⟨41, .guard⟩ (by simp) rfl) rfl
                exact g_not hS (wanted_no rfl rfl rfl eg (by decide)) rfl
              · go_light; intro listed a' w' hs hS hun hdep
                have eg : a'.eval (.tmp 217) = (.bool false) := hs.eval 41 _ 217 rfl (hdep ⟨41, .guard⟩ (by simp) rfl) rfl
                exact g_not hS (wanted_no rfl rfl rfl eg (by decide)) rfl
              · go_light; intro listed a' w' hs hS hun hdep
                have eg : a'.eval (.tmp 217) = (.bool false) := hs.eval 41 _ 217 rfl (hdep ⟨41, .guard⟩ (by simp) rfl) rfl
                exact g_not hS (wanted_no rfl rfl rfl eg (by decide)) rfl
              · go_light; intro listed a' w' hs hS hun hdep
                have eg : a'.eval (.tmp 202) = (.bool false) := hs.eval 26 _ 202 rfl (hdep ⟨26, .guard⟩ (by simp) rfl) rfl
                have e217 : a'.eval (.tmp 217) = (.bool false) := hs.eval 41 _ 217 rfl (hdep ⟨41, .data⟩ (by simp) rfl) rfl
                have e231 : a'.eval (.tmp 231) = (undef) := hs.eval 55 _ 231 rfl (hdep ⟨55, .data⟩ (by simp) rfl) rfl
                exact g_val (.bool false) hS (wanted_yes rfl rfl rfl eg) (op_pick_f rfl e217 (BigFrame.eval_const a' _)) rfl
              · go_light; intro listed a' w' hs hS hun hdep
                have eg : a'.eval (.tmp 187) = (.bool true) := hs.eval 11 _ 187 rfl (hdep ⟨11, .guard⟩ (by simp) rfl) rfl
                have e202 : a'.eval (.tmp 202) = (.bool false) := hs.eval 26 _ 202 rfl (hdep ⟨26, .data⟩ (by simp) rfl) rfl
                have e232 : a'.eval (.tmp 232) = (.bool false) := hs.eval 56 _ 232 rfl (hdep ⟨56, .data⟩ (by simp) rfl) rfl
                exact g_val (.bool false) hS (wanted_yes rfl rfl rfl eg) (op_pick_f rfl e202 e232) rfl
              · go_light; intro listed a' w' hs hS hun hdep
                have eg : a'.eval (.tmp 184) = (.bool false) := hs.eval 8 _ 184 rfl (hdep ⟨8, .guard⟩ (by simp) rfl) rfl
                have e187 : a'.eval (.tmp 187) = (.bool true) := hs.eval 11 _ 187 rfl (hdep ⟨11, .data⟩ (by simp) rfl) rfl
                have e233 : a'.eval (.tmp 233) = (.bool false) := hs.eval 57 _ 233 rfl (hdep ⟨57, .data⟩ (by simp) rfl) rfl
                exact g_val (.bool false) hS (wanted_yes rfl rfl rfl eg) (op_pick_t rfl e187 e233) rfl
              · go_light; intro listed a' w' hs hS hun hdep
                have e184 : a'.eval (.tmp 184) = (.bool false) := hs.eval 8 _ 184 rfl (hdep ⟨8, .data⟩ (by simp) rfl) rfl
                have e234 : a'.eval (.tmp 234) = (.bool false) := hs.eval 58 _ 234 rfl (hdep ⟨58, .data⟩ (by simp) rfl) rfl
                exact g_val (.bool false) hS rfl (op_pick_f rfl e184 e234) rfl
              · intro vs w5 hlen hV listed hall hS
                obtain ⟨v0, v1, v2, v3, v4, v5, v6, v7, v8, v9, v10, v11, v12, v13, v14, v15, v16, v17, v18, v19, v20, v21, v22, v23, v24, v25, v26, v27, v28, v29, v30, v31, v32, v33, v34, v35, v36, v37, v38, v39, v40, v41, v42, v43, v44, v45, v46, v47, v48, v49, v50, v51, v52, v53, v54, v55, v56, v57, v58, v59, rfl⟩ := vs_60 vs (hlen.trans rfl)
                have q0 : v0 = .slice ro rs.length rc := hV 0 _ rfl
                have q1 : v1 = .slice (some ⟨xb, xo, none⟩) rs.length xc := hV 1 _ rfl
                have q2 : v2 = .int .i64 j := hV 2 _ rfl
                have q3 : v3 = .pointer (some ⟨xb, xo + j * 3, none⟩) := hV 3 _ rfl
                have q4 : v4 = .pointer (some ⟨xb, xo + j * 3, none⟩) := hV 4 _ rfl
                have q5 : v5 = .agg #[.int .u32 pa, .int .i64 pb] := hV 5 _ rfl
                have p6 : (fun v _ => ∃ k : Nat, v = .int .i64 k) v6 w5 := hV 6 _ rfl
                have q7 : v7 = .bool false := hV 7 _ rfl
                have q8 : v8 = .bool false := hV 8 _ rfl
                have q9 : v9 = .int .i64 j := hV 9 _ rfl
                have q10 : v10 = .bool true := hV 10 _ rfl
                have q11 : v11 = .bool true := hV 11 _ rfl
                have q12 : v12 = .slice (some ⟨xb, xo, none⟩) rs.length xc := hV 12 _ rfl
                have q13 : v13 = .int .i64 j := hV 13 _ rfl
                have q14 : v14 = .int .i64 m := hV 14 _ rfl
                have q15 : v15 = .pointer (some ⟨xb, xo + m * 3, none⟩) := hV 15 _ rfl
                have q16 : v16 = .pointer (some ⟨xb, xo + m * 3, none⟩) := hV 16 _ rfl
                have q17 : v17 = .pointer (some ⟨xb, xo + m * 3, none⟩) := hV 17 _ rfl
                have q18 : v18 = .int .u32 oa := hV 18 _ rfl
                have q19 : v19 = .slice (some ⟨xb, xo, none⟩) rs.length xc := hV 19 _ rfl
                have q20 : v20 = .int .i64 j := hV 20 _ rfl
                have q21 : v21 = .pointer (some ⟨xb, xo + j * 3, none⟩) := hV 21 _ rfl
                have q22 : v22 = .pointer (some ⟨xb, xo + j * 3, none⟩) := hV 22 _ rfl
                have q23 : v23 = .pointer (some ⟨xb, xo + j * 3, none⟩) := hV 23 _ rfl
                have q24 : v24 = .int .u32 pa := hV 24 _ rfl
                have q25 : v25 = .bool false := hV 25 _ rfl
                have q26 : v26 = .bool false := hV 26 _ rfl
                have q27 : v27 = .slice (some ⟨xb, xo, none⟩) rs.length xc := hV 27 _ rfl
                have q28 : v28 = .int .i64 j := hV 28 _ rfl
                have q29 : v29 = .int .i64 m := hV 29 _ rfl
                have q30 : v30 = .pointer (some ⟨xb, xo + m * 3, none⟩) := hV 30 _ rfl
                have q31 : v31 = .pointer (some ⟨xb, xo + m * 3, none⟩) := hV 31 _ rfl
                have q32 : v32 = .pointer (some ⟨xb, xo + m * 3, none⟩) := hV 32 _ rfl
                have q33 : v33 = .int .u32 oa := hV 33 _ rfl
                have q34 : v34 = .slice (some ⟨xb, xo, none⟩) rs.length xc := hV 34 _ rfl
                have q35 : v35 = .int .i64 j := hV 35 _ rfl
                have q36 : v36 = .pointer (some ⟨xb, xo + j * 3, none⟩) := hV 36 _ rfl
                have q37 : v37 = .pointer (some ⟨xb, xo + j * 3, none⟩) := hV 37 _ rfl
                have q38 : v38 = .pointer (some ⟨xb, xo + j * 3, none⟩) := hV 38 _ rfl
                have q39 : v39 = .int .u32 pa := hV 39 _ rfl
                have q40 : v40 = .bool false := hV 40 _ rfl
                have q41 : v41 = .bool false := hV 41 _ rfl
                have q42 : v42 = undef := hV 42 _ rfl
                have q43 : v43 = undef := hV 43 _ rfl
                have q44 : v44 = undef := hV 44 _ rfl
                have q45 : v45 = undef := hV 45 _ rfl
                have q46 : v46 = undef := hV 46 _ rfl
                have q47 : v47 = undef := hV 47 _ rfl
                have q48 : v48 = undef := hV 48 _ rfl
                have q49 : v49 = undef := hV 49 _ rfl
                have q50 : v50 = undef := hV 50 _ rfl
                have q51 : v51 = undef := hV 51 _ rfl
                have q52 : v52 = undef := hV 52 _ rfl
                have q53 : v53 = undef := hV 53 _ rfl
                have q54 : v54 = undef := hV 54 _ rfl
                have q55 : v55 = undef := hV 55 _ rfl
                have q56 : v56 = .bool false := hV 56 _ rfl
                have q57 : v57 = .bool false := hV 57 _ rfl
                have q58 : v58 = .bool false := hV 58 _ rfl
                have q59 : v59 = .bool false := hV 59 _ rfl
                have hbel : Below wr.heap.size wr w5 := hS
                subst q0 q1 q2 q3 q4 q5 q7 q8 q9 q10 q11 q12 q13 q14 q15 q16 q17 q18 q19 q20 q21 q22 q23 q24 q25 q26 q27 q28 q29 q30 q31 q32 q33 q34 q35 q36 q37 q38 q39 q40 q41 q42 q43 q44 q45 q46 q47 q48 q49 q50 q51 q52 q53 q54 q55 q56 q57 q58 q59
                clear hV hS hlen hall
                clear listed
                simp only [lays, Act.put, List.setIfInBounds_toArray, List.set_cons_zero, List.set_cons_succ]
                have hb5 := hbq.trans (hbel.mono hbq.size)
                clear hbel
                go_wp2
                go_roundw
                case rel => exact ⟨j + 1, by omega, by go_num, hb5⟩
                case measure => simp [intOf]; omega
            · simp only [] at hlt hbt
              subst hlt
              have H201 : Hid (decide ((oa : Int) < (oa : Int)) = false) := Lib.hid (decide_eq_false (by omega))
              have H216 : Hid (((oa : Int) == (oa : Int)) = true) := Lib.hid (by simp)
              have hq231 : ¬ (pb ≤ ob) := by omega
              have H231 : Hid (decide (pb ≤ ob) = false) := Lib.hid (decide_eq_false hq231)
              have LM := Lib.hid hLM
              clear hLJ hLM hmem HPq
              go_upto_region 45 with fail
              refine region_gen (VG wr.heap.size [.val (.slice ro rs.length rc), .val (.slice (some ⟨xb, xo, none⟩) rs.length xc), .val (.int .i64 j), .val (.pointer (some ⟨xb, xo + j * 3, none⟩)), .val (.pointer (some ⟨xb, xo + j * 3, none⟩)), .val (.agg #[.int .u32 oa, .int .i64 pb]), .pr (fun v _ => ∃ k : Nat, v = .int .i64 k) (fun v w w' h _ => h), .val (.bool false), .val (.bool false), .val (.int .i64 j), .val (.bool true), .val (.bool true), .val (.slice (some ⟨xb, xo, none⟩) rs.length xc), .val (.int .i64 j), .val (.int .i64 m), .val (.pointer (some ⟨xb, xo + m * 3, none⟩)), .val (.pointer (some ⟨xb, xo + m * 3, none⟩)), .val (.pointer (some ⟨xb, xo + m * 3, none⟩)), .val (.int .u32 oa), .val (.slice (some ⟨xb, xo, none⟩) rs.length xc), .val (.int .i64 j), .val (.pointer (some ⟨xb, xo + j * 3, none⟩)), .val (.pointer (some ⟨xb, xo + j * 3, none⟩)), .val (.pointer (some ⟨xb, xo + j * 3, none⟩)), .val (.int .u32 oa), .val (.bool false), .val (.bool false), .val (.slice (some ⟨xb, xo, none⟩) rs.length xc), .val (.int .i64 j), .val (.int .i64 m), .val (.pointer (some ⟨xb, xo + m * 3, none⟩)), .val (.pointer (some ⟨xb, xo + m * 3, none⟩)), .val (.pointer (some ⟨xb, xo + m * 3, none⟩)), .val (.int .u32 oa), .val (.slice (some ⟨xb, xo, none⟩) rs.length xc), .val (.int .i64 j), .val (.pointer (some ⟨xb, xo + j * 3, none⟩)), .val (.pointer (some ⟨xb, xo + j * 3, none⟩)), .val (.pointer (some ⟨xb, xo + j * 3, none⟩)), .val (.int .u32 oa), .val (.bool true), .val (.bool true), .val (.slice (some ⟨xb, xo, none⟩) rs.length xc), .val (.int .i64 j), .val (.int .i64 m), .val (.pointer (some ⟨xb, xo + m * 3, none⟩)), .val (.pointer (some ⟨xb, xo + m * 3, none⟩)), .val (.pointer (some ⟨xb, xo + m * 3 + 1, none⟩)), .val (.int .i64 ob), .val (.slice (some ⟨xb, xo, none⟩) rs.length xc), .val (.int .i64 j), .val (.pointer (some ⟨xb, xo + j * 3, none⟩)), .val (.pointer (some ⟨xb, xo + j * 3, none⟩)), .val (.pointer (some ⟨xb, xo + j * 3 + 1, none⟩)), .val (.int .i64 pb), .val (.bool false), .val (.bool false), .val (.bool false), .val (.bool false), .val (.bool false)]) (BS wr) (by kernel_rfl) (by kernel_rfl) (Below.refl _ _).drew ⟨?_, ?_, ?_, ?_, ?_, ?_, ?_, ?_, ?_, ?_, ?_, ?_, ?_, ?_, ?_, ?_, ?_, ?_, ?_, ?_, ?_, ?_, ?_, ?_, ?_, ?_, ?_, ?_, ?_, ?_, ?_, ?_, ?_, ?_, ?_, ?_, ?_, ?_, ?_, ?_, ?_, ?_, ?_, ?_, ?_, ?_, ?_, ?_, ?_, ?_, ?_, ?_, ?_, ?_, ?_, ?_, ?_, ?_, ?_, ?_, trivial⟩ ?_
              · go_light; intro listed a' w' hs hS hun hdep
                have e4 : a'.eval (.tmp 4) = .slice ro rs.length rc := (hs.out 4 (by kernel_rfl)).trans (rfl)
                exact g_val (.slice ro rs.length rc) hS rfl (op_move rfl e4) rfl
              · go_light; intro listed a' w' hs hS hun hdep
                have e16 : a'.eval (.tmp 16) = .slice (some ⟨xb, xo, none⟩) rs.length xc := (hs.out 16 (by kernel_rfl)).trans (rfl)
                exact g_val (.slice (some ⟨xb, xo, none⟩) rs.length xc) hS rfl (op_move rfl e16) rfl
              · go_light; intro listed a' w' hs hS hun hdep
                have e17 : a'.eval (.tmp 17) = .int .i64 j := (hs.out 17 (by kernel_rfl)).trans (rfl)
                exact g_val (.int .i64 j) hS rfl (op_move rfl e17) rfl
              · go_light; intro listed a' w' hs hS hun hdep
                have e177 : a'.eval (.tmp 177) = (.slice (some ⟨xb, xo, none⟩) rs.length xc) := hs.eval 1 _ 177 rfl (hdep ⟨1, .data⟩ (by simp) rfl) rfl
                have e178 : a'.eval (.tmp 178) = (.int .i64 j) := hs.eval 2 _ 178 rfl (hdep ⟨2, .data⟩ (by simp) rfl) rfl
                exact g_val (.pointer (some ⟨xb, xo + j * 3, none⟩)) hS rfl (op_ixa rfl e177 e178 Try.underlying26 (by kernel_rfl) (by omega)) rfl
              · go_light; intro listed a' w' hs hS hun hdep
                have e179 : a'.eval (.tmp 179) = (.pointer (some ⟨xb, xo + j * 3, none⟩)) := hs.eval 3 _ 179 rfl (hdep ⟨3, .data⟩ (by simp) rfl) rfl
                refine g_val (.pointer (some ⟨xb, xo + j * 3, none⟩)) hS rfl ?_ rfl
                have hcn := BigFrame.eval_const a'; have hfn := BigFrame.eval_func a'; clear hs hdep; generalize a'.eval = ev at *; go_simp
              · go_light; intro listed a' w' hs hS hun hdep
                have e180 : a'.eval (.tmp 180) = (.pointer (some ⟨xb, xo + j * 3, none⟩)) := hs.eval 4 _ 180 rfl (hdep ⟨4, .data⟩ (by simp) rfl) rfl
                exact g_val (.agg #[.int .u32 oa, .int .i64 pb]) hS rfl (op_ld [.int .u32 oa, .int .i64 pb] rfl e180 (LJ.out.below hS) 0 (by first | rfl | simp) rfl Try.underlying29 rfl (by kernel_rfl)) rfl
              · go_light; intro listed a' w' hs hS hun hdep
                have e176 : a'.eval (.tmp 176) = (.slice ro rs.length rc) := hs.eval 0 _ 176 rfl (hdep ⟨0, .data⟩ (by simp) rfl) rfl
                have e181 : a'.eval (.tmp 181) = (.agg #[.int .u32 oa, .int .i64 pb]) := hs.eval 5 _ 181 rfl (hdep ⟨5, .data⟩ (by simp) rfl) rfl
                refine g_call 8 #[.slice ro rs.length rc, .agg #[.int .u32 oa, .int .i64 pb]] hS rfl ?_ ?_
                · have hcn := BigFrame.eval_const a'; have hfn := BigFrame.eval_func a'; clear hs hdep; generalize a'.eval = ev at *; go_simp
                · exact c_pr (HGt.out w' hS) rfl
              · go_light; intro listed a' w' hs hS hun hdep
                have r182 : (fun v _ => ∃ k : Nat, v = .int .i64 k) (a'.eval (.tmp 182)) w' := hs.eval 6 _ 182 rfl (hdep ⟨6, .data⟩ (by simp) rfl) rfl
                obtain ⟨kk, e182⟩ := r182
                have hkk : ¬ ((kk : Int) < 0) := by omega
                refine g_val (.bool false) hS rfl ?_ rfl
                have hcn := BigFrame.eval_const a'; have hfn := BigFrame.eval_func a'; clear hs hdep; generalize a'.eval = ev at *; go_simp; try first | omega | (simp; omega)
              · go_light; intro listed a' w' hs hS hun hdep
                have e183 : a'.eval (.tmp 183) = (.bool false) := hs.eval 7 _ 183 rfl (hdep ⟨7, .data⟩ (by simp) rfl) rfl
                exact g_val (.bool false) hS rfl (op_move rfl e183) rfl
              · go_light; intro listed a' w' hs hS hun hdep
                have eg : a'.eval (.tmp 184) = (.bool false) := hs.eval 8 _ 184 rfl (hdep ⟨8, .guard⟩ (by simp) rfl) rfl
                have e17 : a'.eval (.tmp 17) = .int .i64 j := (hs.out 17 (by kernel_rfl)).trans (rfl)
                exact g_val (.int .i64 j) hS (wanted_yes rfl rfl rfl eg) (op_move rfl e17) rfl
              · go_light; intro listed a' w' hs hS hun hdep
                have eg : a'.eval (.tmp 184) = (.bool false) := hs.eval 8 _ 184 rfl (hdep ⟨8, .guard⟩ (by simp) rfl) rfl
                have e185 : a'.eval (.tmp 185) = (.int .i64 j) := hs.eval 9 _ 185 rfl (hdep ⟨9, .data⟩ (by simp) rfl) rfl
                refine g_val (.bool true) hS (wanted_yes rfl rfl rfl eg) ?_ rfl
                have hcn := BigFrame.eval_const a'; have hfn := BigFrame.eval_func a'; clear hs hdep; generalize a'.eval = ev at *; go_simp; try first | exact H186.out | omega | (simp; omega)
              · go_light; intro listed a' w' hs hS hun hdep
                have eg : a'.eval (.tmp 184) = (.bool false) := hs.eval 8 _ 184 rfl (hdep ⟨8, .guard⟩ (by simp) rfl) rfl
                have e186 : a'.eval (.tmp 186) = (.bool true) := hs.eval 10 _ 186 rfl (hdep ⟨10, .data⟩ (by simp) rfl) rfl
                exact g_val (.bool true) hS (wanted_yes rfl rfl rfl eg) (op_move rfl e186) rfl
              · go_light; intro listed a' w' hs hS hun hdep
                have eg : a'.eval (.tmp 187) = (.bool true) := hs.eval 11 _ 187 rfl (hdep ⟨11, .guard⟩ (by simp) rfl) rfl
                have e16 : a'.eval (.tmp 16) = .slice (some ⟨xb, xo, none⟩) rs.length xc := (hs.out 16 (by kernel_rfl)).trans (rfl)
                exact g_val (.slice (some ⟨xb, xo, none⟩) rs.length xc) hS (wanted_yes rfl rfl rfl eg) (op_move rfl e16) rfl
              · go_light; intro listed a' w' hs hS hun hdep
                have eg : a'.eval (.tmp 187) = (.bool true) := hs.eval 11 _ 187 rfl (hdep ⟨11, .guard⟩ (by simp) rfl) rfl
                have e17 : a'.eval (.tmp 17) = .int .i64 j := (hs.out 17 (by kernel_rfl)).trans (rfl)
                exact g_val (.int .i64 j) hS (wanted_yes rfl rfl rfl eg) (op_move rfl e17) rfl
              · go_light; intro listed a' w' hs hS hun hdep
                have eg : a'.eval (.tmp 187) = (.bool true) := hs.eval 11 _ 187 rfl (hdep ⟨11, .guard⟩ (by simp) rfl) rfl
                have e189 : a'.eval (.tmp 189) = (.int .i64 j) := hs.eval 13 _ 189 rfl (hdep ⟨13, .data⟩ (by simp) rfl) rfl
                refine g_val (.int .i64 m) hS (wanted_yes rfl rfl rfl eg) ?_ rfl
                have hcn := BigFrame.eval_const a'; have hfn := BigFrame.eval_func a'; clear hs hdep; generalize a'.eval = ev at *; go_simp; try rw [show ((j : Int) - 1) = (m : Int) by omega]
                exact HMW.out
              · go_light; intro listed a' w' hs hS hun hdep
                have eg : a'.eval (.tmp 187) = (.bool true) := hs.eval 11 _ 187 rfl (hdep ⟨11, .guard⟩ (by simp) rfl) rfl
                have e188 : a'.eval (.tmp 188) = (.slice (some ⟨xb, xo, none⟩) rs.length xc) := hs.eval 12 _ 188 rfl (hdep ⟨12, .data⟩ (by simp) rfl) rfl
                have e190 : a'.eval (.tmp 190) = (.int .i64 m) := hs.eval 14 _ 190 rfl (hdep ⟨14, .data⟩ (by simp) rfl) rfl
                exact g_val (.pointer (some ⟨xb, xo + m * 3, none⟩)) hS (wanted_yes rfl rfl rfl eg) (op_ixa rfl e188 e190 Try.underlying26 (by kernel_rfl) (by omega)) rfl
              · go_light; intro listed a' w' hs hS hun hdep
                have eg : a'.eval (.tmp 187) = (.bool true) := hs.eval 11 _ 187 rfl (hdep ⟨11, .guard⟩ (by simp) rfl) rfl
                have e191 : a'.eval (.tmp 191) = (.pointer (some ⟨xb, xo + m * 3, none⟩)) := hs.eval 15 _ 191 rfl (hdep ⟨15, .data⟩ (by simp) rfl) rfl
                refine g_val (.pointer (some ⟨xb, xo + m * 3, none⟩)) hS (wanted_yes rfl rfl rfl eg) ?_ rfl
                have hcn := BigFrame.eval_const a'; have hfn := BigFrame.eval_func a'; clear hs hdep; generalize a'.eval = ev at *; go_simp
              · go_light; intro listed a' w' hs hS hun hdep
                have eg : a'.eval (.tmp 187) = (.bool true) := hs.eval 11 _ 187 rfl (hdep ⟨11, .guard⟩ (by simp) rfl) rfl
                have e192 : a'.eval (.tmp 192) = (.pointer (some ⟨xb, xo + m * 3, none⟩)) := hs.eval 16 _ 192 rfl (hdep ⟨16, .data⟩ (by simp) rfl) rfl
                refine g_val (.pointer (some ⟨xb, xo + m * 3, none⟩)) hS (wanted_yes rfl rfl rfl eg) ?_ rfl
                have hcn := BigFrame.eval_const a'; have hfn := BigFrame.eval_func a'; clear hs hdep; generalize a'.eval = ev at *; go_simp
              · go_light; intro listed a' w' hs hS hun hdep
                have eg : a'.eval (.tmp 187) = (.bool true) := hs.eval 11 _ 187 rfl (hdep ⟨11, .guard⟩ (by simp) rfl) rfl
                have e193 : a'.eval (.tmp 193) = (.pointer (some ⟨xb, xo + m * 3, none⟩)) := hs.eval 17 _ 193 rfl (hdep ⟨17, .data⟩ (by simp) rfl) rfl
                exact g_val (.int .u32 oa) hS (wanted_yes rfl rfl rfl eg) (op_ld1 (.int .u32 oa) rfl e193 (LM.out.below hS) 0 (by first | rfl | simp) rfl Try.underlying27 rfl) rfl
              · go_light; intro listed a' w' hs hS hun hdep
                have eg : a'.eval (.tmp 187) = (.bool true) := hs.eval 11 _ 187 rfl (hdep ⟨11, .guard⟩ (by simp) rfl) rfl
                have e16 : a'.eval (.tmp 16) = .slice (some ⟨xb, xo, none⟩) rs.length xc := (hs.out 16 (by kernel_rfl)).trans (rfl)
                exact g_val (.slice (some ⟨xb, xo, none⟩) rs.length xc) hS (wanted_yes rfl rfl rfl eg) (op_move rfl e16) rfl
              · go_light; intro listed a' w' hs hS hun hdep
                have eg : a'.eval (.tmp 187) = (.bool true) := hs.eval 11 _ 187 rfl (hdep ⟨11, .guard⟩ (by simp) rfl) rfl
                have e17 : a'.eval (.tmp 17) = .int .i64 j := (hs.out 17 (by kernel_rfl)).trans (rfl)
                exact g_val (.int .i64 j) hS (wanted_yes rfl rfl rfl eg) (op_move rfl e17) rfl
              · go_light; intro listed a' w' hs hS hun hdep
                have eg : a'.eval (.tmp 187) = (.bool true) := hs.eval 11 _ 187 rfl (hdep ⟨11, .guard⟩ (by simp) rfl) rfl
                have e195 : a'.eval (.tmp 195) = (.slice (some ⟨xb, xo, none⟩) rs.length xc) := hs.eval 19 _ 195 rfl (hdep ⟨19, .data⟩ (by simp) rfl) rfl
                have e196 : a'.eval (.tmp 196) = (.int .i64 j) := hs.eval 20 _ 196 rfl (hdep ⟨20, .data⟩ (by simp) rfl) rfl
                exact g_val (.pointer (some ⟨xb, xo + j * 3, none⟩)) hS (wanted_yes rfl rfl rfl eg) (op_ixa rfl e195 e196 Try.underlying26 (by kernel_rfl) (by omega)) rfl
              · go_light; intro listed a' w' hs hS hun hdep
                have eg : a'.eval (.tmp 187) = (.bool true) := hs.eval 11 _ 187 rfl (hdep ⟨11, .guard⟩ (by simp) rfl) rfl
                have e197 : a'.eval (.tmp 197) = (.pointer (some ⟨xb, xo + j * 3, none⟩)) := hs.eval 21 _ 197 rfl (hdep ⟨21, .data⟩ (by simp) rfl) rfl
                refine g_val (.pointer (some ⟨xb, xo + j * 3, none⟩)) hS (wanted_yes rfl rfl rfl eg) ?_ rfl
                have hcn := BigFrame.eval_const a'; have hfn := BigFrame.eval_func a'; clear hs hdep; generalize a'.eval = ev at *; go_simp
              · go_light; intro listed a' w' hs hS hun hdep
                have eg : a'.eval (.tmp 187) = (.bool true) := hs.eval 11 _ 187 rfl (hdep ⟨11, .guard⟩ (by simp) rfl) rfl
                have e198 : a'.eval (.tmp 198) = (.pointer (some ⟨xb, xo + j * 3, none⟩)) := hs.eval 22 _ 198 rfl (hdep ⟨22, .data⟩ (by simp) rfl) rfl
                refine g_val (.pointer (some ⟨xb, xo + j * 3, none⟩)) hS (wanted_yes rfl rfl rfl eg) ?_ rfl
                have hcn := BigFrame.eval_const a'; have hfn := BigFrame.eval_func a'; clear hs hdep; generalize a'.eval = ev at *; go_simp
              · go_light; intro listed a' w' hs hS hun hdep
                have eg : a'.eval (.tmp 187) = (.bool true) := hs.eval 11 _ 187 rfl (hdep ⟨11, .guard⟩ (by simp) rfl) rfl
                have e199 : a'.eval (.tmp 199) = (.pointer (some ⟨xb, xo + j * 3, none⟩)) := hs.eval 23 _ 199 rfl (hdep ⟨23, .data⟩ (by simp) rfl) rfl
                exact g_val (.int .u32 oa) hS (wanted_yes rfl rfl rfl eg) (op_ld1 (.int .u32 oa) rfl e199 (LJ.out.below hS) 0 (by first | rfl | simp) rfl Try.underlying27 rfl) rfl
              · go_light; intro listed a' w' hs hS hun hdep
                have eg : a'.eval (.tmp 187) = (.bool true) := hs.eval 11 _ 187 rfl (hdep ⟨11, .guard⟩ (by simp) rfl) rfl
                have e194 : a'.eval (.tmp 194) = (.int .u32 oa) := hs.eval 18 _ 194 rfl (hdep ⟨18, .data⟩ (by simp) rfl) rfl
                have e200 : a'.eval (.tmp 200) = (.int .u32 oa) := hs.eval 24 _ 200 rfl (hdep ⟨24, .data⟩ (by simp) rfl) rfl
                refine g_val (.bool false) hS (wanted_yes rfl rfl rfl eg) ?_ rfl
                have hcn := BigFrame.eval_const a'; have hfn := BigFrame.eval_func a'; clear hs hdep; generalize a'.eval = ev at *; go_simp; try first | exact H201.out | omega | (simp; omega)
              · go_light; intro listed a' w' hs hS hun hdep
                have eg : a'.eval (.tmp 187) = (.bool true) := hs.eval 11 _ 187 rfl (hdep ⟨11, .guard⟩ (by simp) rfl) rfl
                have e201 : a'.eval (.tmp 201) = (.bool false) := hs.eval 25 _ 201 rfl (hdep ⟨25, .data⟩ (by simp) rfl) rfl
                exact g_val (.bool false) hS (wanted_yes rfl rfl rfl eg) (op_move rfl e201) rfl
              · go_light; intro listed a' w' hs hS hun hdep
                have eg : a'.eval (.tmp 202) = (.bool false) := hs.eval 26 _ 202 rfl (hdep ⟨26, .guard⟩ (by simp) rfl) rfl
                have e16 : a'.eval (.tmp 16) = .slice (some ⟨xb, xo, none⟩) rs.length xc := (hs.out 16 (by kernel_rfl)).trans (rfl)
                exact g_val (.slice (some ⟨xb, xo, none⟩) rs.length xc) hS (wanted_yes rfl rfl rfl eg) (op_move rfl e16) rfl
              · go_light; intro listed a' w' hs hS hun hdep
                have eg : a'.eval (.tmp 202) = (.bool false) := hs.eval 26 _ 202 rfl (hdep ⟨26, .guard⟩ (by simp) rfl) rfl
                have e17 : a'.eval (.tmp 17) = .int .i64 j := (hs.out 17 (by kernel_rfl)).trans (rfl)
                exact g_val (.int .i64 j) hS (wanted_yes rfl rfl rfl eg) (op_move rfl e17) rfl
              · go_light; intro listed a' w' hs hS hun hdep
                have eg : a'.eval (.tmp 202) = (.bool false) := hs.eval 26 _ 202 rfl (hdep ⟨26, .guard⟩ (by simp) rfl) rfl
                have e204 : a'.eval (.tmp 204) = (.int .i64 j) := hs.eval 28 _ 204 rfl (hdep ⟨28, .data⟩ (by simp) rfl) rfl
                refine g_val (.int .i64 m) hS (wanted_yes rfl rfl rfl eg) ?_ rfl
                have hcn := BigFrame.eval_const a'; have hfn := BigFrame.eval_func a'; clear hs hdep; generalize a'.eval = ev at *; go_simp; try rw [show ((j : Int) - 1) = (m : Int) by omega]
                exact HMW.out
              · go_light; intro listed a' w' hs hS hun hdep
                have eg : a'.eval (.tmp 202) = (.bool false) := hs.eval 26 _ 202 rfl (hdep ⟨26, .guard⟩ (by simp) rfl) rfl
                have e203 : a'.eval (.tmp 203) = (.slice (some ⟨xb, xo, none⟩) rs.length xc) := hs.eval 27 _ 203 rfl (hdep ⟨27, .data⟩ (by simp) rfl) rfl
                have e205 : a'.eval (.tmp 205) = (.int .i64 m) := hs.eval 29 _ 205 rfl (hdep ⟨29, .data⟩ (by simp) rfl) rfl
                exact g_val (.pointer (some ⟨xb, xo + m * 3, none⟩)) hS (wanted_yes rfl rfl rfl eg) (op_ixa rfl e203 e205 Try.underlying26 (by kernel_rfl) (by omega)) rfl
              · go_light; intro listed a' w' hs hS hun hdep
                have eg : a'.eval (.tmp 202) = (.bool false) := hs.eval 26 _ 202 rfl (hdep ⟨26, .guard⟩ (by simp) rfl) rfl
                have e206 : a'.eval (.tmp 206) = (.pointer (some ⟨xb, xo + m * 3, none⟩)) := hs.eval 30 _ 206 rfl (hdep ⟨30, .data⟩ (by simp) rfl) rfl
                refine g_val (.pointer (some ⟨xb, xo + m * 3, none⟩)) hS (wanted_yes rfl rfl rfl eg) ?_ rfl
                have hcn := BigFrame.eval_const a'; have hfn := BigFrame.eval_func a'; clear hs hdep; generalize a'.eval = ev at *; go_simp
              · go_light; intro listed a' w' hs hS hun hdep
                have eg : a'.eval (.tmp 202) = (.bool false) := hs.eval 26 _ 202 rfl (hdep ⟨26, .guard⟩ (by simp) rfl) rfl
                have e207 : a'.eval (.tmp 207) = (.pointer (some ⟨xb, xo + m * 3, none⟩)) := hs.eval 31 _ 207 rfl (hdep ⟨31, .data⟩ (by simp) rfl) rfl
                refine g_val (.pointer (some ⟨xb, xo + m * 3, none⟩)) hS (wanted_yes rfl rfl rfl eg) ?_ rfl
                have hcn := BigFrame.eval_const a'; have hfn := BigFrame.eval_func a'; clear hs hdep; generalize a'.eval = ev at *; go_simp
              · go_light; intro listed a' w' hs hS hun hdep
                have eg : a'.eval (.tmp 202) = (.bool false) := hs.eval 26 _ 202 rfl (hdep ⟨26, .guard⟩ (by simp) rfl) rfl
                have e208 : a'.eval (.tmp 208) = (.pointer (some ⟨xb, xo + m * 3, none⟩)) := hs.eval 32 _ 208 rfl (hdep ⟨32, .data⟩ (by simp) rfl) rfl
                exact g_val (.int .u32 oa) hS (wanted_yes rfl rfl rfl eg) (op_ld1 (.int .u32 oa) rfl e208 (LM.out.below hS) 0 (by first | rfl | simp) rfl Try.underlying27 rfl) rfl
              · go_light; intro listed a' w' hs hS hun hdep
                have eg : a'.eval (.tmp 202) = (.bool false) := hs.eval 26 _ 202 rfl (hdep ⟨26, .guard⟩ (by simp) rfl) rfl
                have e16 : a'.eval (.tmp 16) = .slice (some ⟨xb, xo, none⟩) rs.length xc := (hs.out 16 (by kernel_rfl)).trans (rfl)
                exact g_val (.slice (some ⟨xb, xo, none⟩) rs.length xc) hS (wanted_yes rfl rfl rfl eg) (op_move rfl e16) rfl
              · go_light; intro listed a' w' hs hS hun hdep
                have eg : a'.eval (.tmp 202) = (.bool false) := hs.eval 26 _ 202 rfl (hdep ⟨26, .guard⟩ (by simp) rfl) rfl
                have e17 : a'.eval (.tmp 17) = .int .i64 j := (hs.out 17 (by kernel_rfl)).trans (rfl)
                exact g_val (.int .i64 j) hS (wanted_yes rfl rfl rfl eg) (op_move rfl e17) rfl
              · go_light; intro listed a' w' hs hS hun hdep
                have eg : a'.eval (.tmp 202) = (.bool false) := hs.eval 26 _ 202 rfl (hdep ⟨26, .guard⟩ (by simp) rfl) rfl
                have e210 : a'.eval (.tmp 210) = (.slice (some ⟨xb, xo, none⟩) rs.length xc) := hs.eval 34 _ 210 rfl (hdep ⟨34, .data⟩ (by simp) rfl) rfl
                have e211 : a'.eval (.tmp 211) = (.int .i64 j) := hs.eval 35 _ 211 rfl (hdep ⟨35, .data⟩ (by simp) rfl) rfl
                exact g_val (.pointer (some ⟨xb, xo + j * 3, none⟩)) hS (wanted_yes rfl rfl rfl eg) (op_ixa rfl e210 e211 Try.underlying26 (by kernel_rfl) (by omega)) rfl
              · go_light; intro listed a' w' hs hS hun hdep
                have eg : a'.eval (.tmp 202) = (.bool false) := hs.eval 26 _ 202 rfl (hdep ⟨26, .guard⟩ (by simp) rfl) rfl
                have e212 : a'.eval (.tmp 212) = (.pointer (some ⟨xb, xo + j * 3, none⟩)) := hs.eval 36 _ 212 rfl (hdep ⟨36, .data⟩ (by simp) rfl) rfl
                refine g_val (.pointer (some ⟨xb, xo + j * 3, none⟩)) hS (wanted_yes rfl rfl rfl eg) ?_ rfl
                have hcn := BigFrame.eval_const a'; have hfn := BigFrame.eval_func a'; clear hs hdep; generalize a'.eval = ev at *; go_simp
              · go_light; intro listed a' w' hs hS hun hdep
                have eg : a'.eval (.tmp 202) = (.bool false) := hs.eval 26 _ 202 rfl (hdep ⟨26, .guard⟩ (by simp) rfl) rfl
                have e213 : a'.eval (.tmp 213) = (.pointer (some ⟨xb, xo + j * 3, none⟩)) := hs.eval 37 _ 213 rfl (hdep ⟨37, .data⟩ (by simp) rfl) rfl
                refine g_val (.pointer (some ⟨xb, xo + j * 3, none⟩)) hS (wanted_yes rfl rfl rfl eg) ?_ rfl
                have hcn := BigFrame.eval_const a'; have hfn := BigFrame.eval_func a'; clear hs hdep; generalize a'.eval = ev at *; go_simp
              · go_light; intro listed a' w' hs hS hun hdep
                have eg : a'.eval (.tmp 202) = (.bool false) := hs.eval 26 _ 202 rfl (hdep ⟨26, .guard⟩ (by simp) rfl) rfl
                have e214 : a'.eval (.tmp 214) = (.pointer (some ⟨xb, xo + j * 3, none⟩)) := hs.eval 38 _ 214 rfl (hdep ⟨38, .data⟩ (by simp) rfl) rfl
                exact g_val (.int .u32 oa) hS (wanted_yes rfl rfl rfl eg) (op_ld1 (.int .u32 oa) rfl e214 (LJ.out.below hS) 0 (by first | rfl | simp) rfl Try.underlying27 rfl) rfl
              · go_light; intro listed a' w' hs hS hun hdep
                have eg : a'.eval (.tmp 202) = (.bool false) := hs.eval 26 _ 202 rfl (hdep ⟨26, .guard⟩ (by simp) rfl) rfl
                have e209 : a'.eval (.tmp 209) = (.int .u32 oa) := hs.eval 33 _ 209 rfl (hdep ⟨33, .data⟩ (by simp) rfl) rfl
                have e215 : a'.eval (.tmp 215) = (.int .u32 oa) := hs.eval 39 _ 215 rfl (hdep ⟨39, .data⟩ (by simp) rfl) rfl
                refine g_val (.bool true) hS (wanted_yes rfl rfl rfl eg) ?_ rfl
                have hcn := BigFrame.eval_const a'; have hfn := BigFrame.eval_func a'; clear hs hdep; generalize a'.eval = ev at *; go_simp; try first | exact H216.out | omega | (simp; omega)
              · go_light; intro listed a' w' hs hS hun hdep
                have eg : a'.eval (.tmp 202) = (.bool false) := hs.eval 26 _ 202 rfl (hdep ⟨26, .guard⟩ (by simp) rfl) rfl
                have e216 : a'.eval (.tmp 216) = (.bool true) := hs.eval 40 _ 216 rfl (hdep ⟨40, .data⟩ (by simp) rfl) rfl
                exact g_val (.bool true) hS (wanted_yes rfl rfl rfl eg) (op_move rfl e216) rfl
              · go_light; intro listed a' w' hs hS hun hdep
                have eg : a'.eval (.tmp 217) = (.bool true) := hs.eval 41 _ 217 rfl (hdep ⟨41, .guard⟩ (by simp) rfl) rfl
                have e16 : a'.eval (.tmp 16) = .slice (some ⟨xb, xo, none⟩) rs.length xc := (hs.out 16 (by kernel_rfl)).trans (rfl)
                exact g_val (.slice (some ⟨xb, xo, none⟩) rs.length xc) hS (wanted_yes rfl rfl rfl eg) (op_move rfl e16) rfl
              · go_light; intro listed a' w' hs hS hun hdep
                have eg : a'.eval (.tmp 217) = (.bool true) := hs.eval 41 _ 217 rfl (hdep ⟨41, .guard⟩ (by simp) rfl) rfl
                have e17 : a'.eval (.tmp 17) = .int .i64 j := (hs.out 17 (by kernel_rfl)).trans (rfl)
                exact g_val (.int .i64 j) hS (wanted_yes rfl rfl rfl eg) (op_move rfl e17) rfl
              · go_light; intro listed a' w' hs hS hun hdep
                have eg : a'.eval (.tmp 217) = (.bool true) := hs.eval 41 _ 217 rfl (hdep ⟨41, .guard⟩ (by simp) rfl) rfl
                have e219 : a'.eval (.tmp 219) = (.int .i64 j) := hs.eval 43 _ 219 rfl (hdep ⟨43, .data⟩ (by simp) rfl) rfl
                refine g_val (.int .i64 m) hS (wanted_yes rfl rfl rfl eg) ?_ rfl
                have hcn := BigFrame.eval_const a'; have hfn := BigFrame.eval_func a'; clear hs hdep; generalize a'.eval = ev at *; go_simp; try rw [show ((j : Int) - 1) = (m : Int) by omega]
                exact HMW.out
              · go_light; intro listed a' w' hs hS hun hdep
                have eg : a'.eval (.tmp 217) = (.bool true) := hs.eval 41 _ 217 rfl (hdep ⟨41, .guard⟩ (by simp) rfl) rfl
                have e218 : a'.eval (.tmp 218) = (.slice (some ⟨xb, xo, none⟩) rs.length xc) := hs.eval 42 _ 218 rfl (hdep ⟨42, .data⟩ (by simp) rfl) rfl
                have e220 : a'.eval (.tmp 220) = (.int .i64 m) := hs.eval 44 _ 220 rfl (hdep ⟨44, .data⟩ (by simp) rfl) rfl
                exact g_val (.pointer (some ⟨xb, xo + m * 3, none⟩)) hS (wanted_yes rfl rfl rfl eg) (op_ixa rfl e218 e220 Try.underlying26 (by kernel_rfl) (by omega)) rfl
              · go_light; intro listed a' w' hs hS hun hdep
                have eg : a'.eval (.tmp 217) = (.bool true) := hs.eval 41 _ 217 rfl (hdep ⟨41, .guard⟩ (by simp) rfl) rfl
                have e221 : a'.eval (.tmp 221) = (.pointer (some ⟨xb, xo + m * 3, none⟩)) := hs.eval 45 _ 221 rfl (hdep ⟨45, .data⟩ (by simp) rfl) rfl
                refine g_val (.pointer (some ⟨xb, xo + m * 3, none⟩)) hS (wanted_yes rfl rfl rfl eg) ?_ rfl
                have hcn := BigFrame.eval_const a'; have hfn := BigFrame.eval_func a'; clear hs hdep; generalize a'.eval = ev at *; go_simp
              · go_light; intro listed a' w' hs hS hun hdep
                have eg : a'.eval (.tmp 217) = (.bool true) := hs.eval 41 _ 217 rfl (hdep ⟨41, .guard⟩ (by simp) rfl) rfl
                have e222 : a'.eval (.tmp 222) = (.pointer (some ⟨xb, xo + m * 3, none⟩)) := hs.eval 46 _ 222 rfl (hdep ⟨46, .data⟩ (by simp) rfl) rfl
                refine g_val (.pointer (some ⟨xb, xo + m * 3 + 1, none⟩)) hS (wanted_yes rfl rfl rfl eg) ?_ rfl
                have hcn := BigFrame.eval_const a'; have hfn := BigFrame.eval_func a'; clear hs hdep; generalize a'.eval = ev at *; go_simp
              · go_light; intro listed a' w' hs hS hun hdep
                have eg : a'.eval (.tmp 217) = (.bool true) := hs.eval 41 _ 217 rfl (hdep ⟨41, .guard⟩ (by simp) rfl) rfl
                have e223 : a'.eval (.tmp 223) = (.pointer (some ⟨xb, xo + m * 3 + 1, none⟩)) := hs.eval 47 _ 223 rfl (hdep ⟨47, .data⟩ (by simp) rfl) rfl
                exact g_val (.int .i64 ob) hS (wanted_yes rfl rfl rfl eg) (op_ld1 (.int .i64 ob) rfl e223 (LM.out.below hS) 1 (by first | rfl | simp) rfl Try.underlying3 rfl) rfl
              · go_light; intro listed a' w' hs hS hun hdep
                have eg : a'.eval (.tmp 217) = (.bool true) := hs.eval 41 _ 217 rfl (hdep ⟨41, .guard⟩ (by simp) rfl) rfl
                have e16 : a'.eval (.tmp 16) = .slice (some ⟨xb, xo, none⟩) rs.length xc := (hs.out 16 (by kernel_rfl)).trans (rfl)
                exact g_val (.slice (some ⟨xb, xo, none⟩) rs.length xc) hS (wanted_yes rfl rfl rfl eg) (op_move rfl e16) rfl
              · go_light; intro listed a' w' hs hS hun hdep
                have eg : a'.eval (.tmp 217) = (.bool true) := hs.eval 41 _ 217 rfl (hdep ⟨41, .guard⟩ (by simp) rfl) rfl
                have e17 : a'.eval (.tmp 17) = .int .i64 j := (hs.out 17 (by kernel_rfl)).trans (rfl)
                exact g_val (.int .i64 j) hS (wanted_yes rfl rfl rfl eg) (op_move rfl e17) rfl
              · go_light; intro listed a' w' hs hS hun hdep
                have eg : a'.eval (.tmp 217) = (.bool true) := hs.eval 41 _ 217 rfl (hdep ⟨41, .guard⟩ (by simp) rfl) rfl
                have e225 : a'.eval (.tmp 225) = (.slice (some ⟨xb, xo, none⟩) rs.length xc) := hs.eval 49 _ 225 rfl (hdep ⟨49, .data⟩ (by simp) rfl) rfl
                have e226 : a'.eval (.tmp 226) = (.int .i64 j) := hs.eval 50 _ 226 rfl (hdep ⟨50, .data⟩ (by simp) rfl) rfl
                exact g_val (.pointer (some ⟨xb, xo + j * 3, none⟩)) hS (wanted_yes rfl rfl rfl eg) (op_ixa rfl e225 e226 Try.underlying26 (by kernel_rfl) (by omega)) rfl
              · go_light; intro listed a' w' hs hS hun hdep
                have eg : a'.eval (.tmp 217) = (.bool true) := hs.eval 41 _ 217 rfl (hdep ⟨41, .guard⟩ (by simp) rfl) rfl
                have e227 : a'.eval (.tmp 227) = (.pointer (some ⟨xb, xo + j * 3, none⟩)) := hs.eval 51 _ 227 rfl (hdep ⟨51, .data⟩ (by simp) rfl) rfl
                refine g_val (.pointer (some ⟨xb, xo + j * 3, none⟩)) hS (wanted_yes rfl rfl rfl eg) ?_ rfl
                have hcn := BigFrame.eval_const a'; have hfn := BigFrame.eval_func a'; clear hs hdep; generalize a'.eval = ev at *; go_simp
              · go_light; intro listed a' w' hs hS hun hdep
                have eg : a'.eval (.tmp 217) = (.bool true) := hs.eval 41 _ 217 rfl (hdep ⟨41, .guard⟩ (by simp) rfl) rfl
                have e228 : a'.eval (.tmp 228) = (.pointer (some ⟨xb, xo + j * 3, none⟩)) := hs.eval 52 _ 228 rfl (hdep ⟨52, .data⟩ (by simp) rfl) rfl
                refine g_val (.pointer (some ⟨xb, xo + j * 3 + 1, none⟩)) hS (wanted_yes rfl rfl rfl eg) ?_ rfl
                have hcn := BigFrame.eval_const a'; have hfn := BigFrame.eval_func a'; clear hs hdep; generalize a'.eval = ev at *; go_simp
              · go_light; intro listed a' w' hs hS hun hdep
                have eg : a'.eval (.tmp 217) = (.bool true) := hs.eval 41 _ 217 rfl (hdep ⟨41, .guard⟩ (by simp) rfl) rfl
                have e229 : a'.eval (.tmp 229) = (.pointer (some ⟨xb, xo + j * 3 + 1, none⟩)) := hs.eval 53 _ 229 rfl (hdep ⟨53, .data⟩ (by simp) rfl) rfl
                exact g_val (.int .i64 pb) hS (wanted_yes rfl rfl rfl eg) (op_ld1 (.int .i64 pb) rfl e229 (LJ.out.below hS) 1 (by first | rfl | simp) rfl Try.underlying3 rfl) rfl
              · go_light; intro listed a' w' hs hS hun hdep
                have eg : a'.eval (.tmp 217) = (.bool true) := hs.eval 41 _ 217 rfl (hdep ⟨41, .guard⟩ (by simp) rfl) rfl
                have e224 : a'.eval (.tmp 224) = (.int .i64 ob) := hs.eval 48 _ 224 rfl (hdep ⟨48, .data⟩ (by simp) rfl) rfl
                have e230 : a'.eval (.tmp 230) = (.int .i64 pb) := hs.eval 54 _ 230 rfl (hdep ⟨54, .data⟩ (by simp) rfl) rfl
                refine g_val (.bool false) hS (wanted_yes rfl rfl rfl eg) ?_ rfl
                have hcn := BigFrame.eval_const a'; have hfn := BigFrame.eval_func a'; clear hs hdep; generalize a'.eval = ev at *; go_simp; try first | exact H231.out | omega | (simp; omega)
              · go_light; intro listed a' w' hs hS hun hdep
                have eg : a'.eval (.tmp 202) = (.bool false) := hs.eval 26 _ 202 rfl (hdep ⟨26, .guard⟩ (by simp) rfl) rfl
                have e217 : a'.eval (.tmp 217) = (.bool true) := hs.eval 41 _ 217 rfl (hdep ⟨41, .data⟩ (by simp) rfl) rfl
                have e231 : a'.eval (.tmp 231) = (.bool false) := hs.eval 55 _ 231 rfl (hdep ⟨55, .data⟩ (by simp) rfl) rfl
                exact g_val (.bool false) hS (wanted_yes rfl rfl rfl eg) (op_pick_t rfl e217 e231) rfl
              · go_light; intro listed a' w' hs hS hun hdep
                have eg : a'.eval (.tmp 187) = (.bool true) := hs.eval 11 _ 187 rfl (hdep ⟨11, .guard⟩ (by simp) rfl) rfl
                have e202 : a'.eval (.tmp 202) = (.bool false) := hs.eval 26 _ 202 rfl (hdep ⟨26, .data⟩ (by simp) rfl) rfl
                have e232 : a'.eval (.tmp 232) = (.bool false) := hs.eval 56 _ 232 rfl (hdep ⟨56, .data⟩ (by simp) rfl) rfl
                exact g_val (.bool false) hS (wanted_yes rfl rfl rfl eg) (op_pick_f rfl e202 e232) rfl
              · go_light; intro listed a' w' hs hS hun hdep
                have eg : a'.eval (.tmp 184) = (.bool false) := hs.eval 8 _ 184 rfl (hdep ⟨8, .guard⟩ (by simp) rfl) rfl
                have e187 : a'.eval (.tmp 187) = (.bool true) := hs.eval 11 _ 187 rfl (hdep ⟨11, .data⟩ (by simp) rfl) rfl
                have e233 : a'.eval (.tmp 233) = (.bool false) := hs.eval 57 _ 233 rfl (hdep ⟨57, .data⟩ (by simp) rfl) rfl
                exact g_val (.bool false) hS (wanted_yes rfl rfl rfl eg) (op_pick_t rfl e187 e233) rfl
              · go_light; intro listed a' w' hs hS hun hdep
                have e184 : a'.eval (.tmp 184) = (.bool false) := hs.eval 8 _ 184 rfl (hdep ⟨8, .data⟩ (by simp) rfl) rfl
                have e234 : a'.eval (.tmp 234) = (.bool false) := hs.eval 58 _ 234 rfl (hdep ⟨58, .data⟩ (by simp) rfl) rfl
                exact g_val (.bool false) hS rfl (op_pick_f rfl e184 e234) rfl
              · intro vs w5 hlen hV listed hall hS
                obtain ⟨v0, v1, v2, v3, v4, v5, v6, v7, v8, v9, v10, v11, v12, v13, v14, v15, v16, v17, v18, v19, v20, v21, v22, v23, v24, v25, v26, v27, v28, v29, v30, v31, v32, v33, v34, v35, v36, v37, v38, v39, v40, v41, v42, v43, v44, v45, v46, v47, v48, v49, v50, v51, v52, v53, v54, v55, v56, v57, v58, v59, rfl⟩ := vs_60 vs (hlen.trans rfl)
                have q0 : v0 = .slice ro rs.length rc := hV 0 _ rfl
                have q1 : v1 = .slice (some ⟨xb, xo, none⟩) rs.length xc := hV 1 _ rfl
                have q2 : v2 = .int .i64 j := hV 2 _ rfl
                have q3 : v3 = .pointer (some ⟨xb, xo + j * 3, none⟩) := hV 3 _ rfl
                have q4 : v4 = .pointer (some ⟨xb, xo + j * 3, none⟩) := hV 4 _ rfl
                have q5 : v5 = .agg #[.int .u32 oa, .int .i64 pb] := hV 5 _ rfl
                have p6 : (fun v _ => ∃ k : Nat, v = .int .i64 k) v6 w5 := hV 6 _ rfl
                have q7 : v7 = .bool false := hV 7 _ rfl
                have q8 : v8 = .bool false := hV 8 _ rfl
                have q9 : v9 = .int .i64 j := hV 9 _ rfl
                have q10 : v10 = .bool true := hV 10 _ rfl
                have q11 : v11 = .bool true := hV 11 _ rfl
                have q12 : v12 = .slice (some ⟨xb, xo, none⟩) rs.length xc := hV 12 _ rfl
                have q13 : v13 = .int .i64 j := hV 13 _ rfl
                have q14 : v14 = .int .i64 m := hV 14 _ rfl
                have q15 : v15 = .pointer (some ⟨xb, xo + m * 3, none⟩) := hV 15 _ rfl
                have q16 : v16 = .pointer (some ⟨xb, xo + m * 3, none⟩) := hV 16 _ rfl
                have q17 : v17 = .pointer (some ⟨xb, xo + m * 3, none⟩) := hV 17 _ rfl
                have q18 : v18 = .int .u32 oa := hV 18 _ rfl
                have q19 : v19 = .slice (some ⟨xb, xo, none⟩) rs.length xc := hV 19 _ rfl
                have q20 : v20 = .int .i64 j := hV 20 _ rfl
                have q21 : v21 = .pointer (some ⟨xb, xo + j * 3, none⟩) := hV 21 _ rfl
                have q22 : v22 = .pointer (some ⟨xb, xo + j * 3, none⟩) := hV 22 _ rfl
                have q23 : v23 = .pointer (some ⟨xb, xo + j * 3, none⟩) := hV 23 _ rfl
                have q24 : v24 = .int .u32 oa := hV 24 _ rfl
                have q25 : v25 = .bool false := hV 25 _ rfl
                have q26 : v26 = .bool false := hV 26 _ rfl
                have q27 : v27 = .slice (some ⟨xb, xo, none⟩) rs.length xc := hV 27 _ rfl
                have q28 : v28 = .int .i64 j := hV 28 _ rfl
                have q29 : v29 = .int .i64 m := hV 29 _ rfl
                have q30 : v30 = .pointer (some ⟨xb, xo + m * 3, none⟩) := hV 30 _ rfl
                have q31 : v31 = .pointer (some ⟨xb, xo + m * 3, none⟩) := hV 31 _ rfl
                have q32 : v32 = .pointer (some ⟨xb, xo + m * 3, none⟩) := hV 32 _ rfl
                have q33 : v33 = .int .u32 oa := hV 33 _ rfl
                have q34 : v34 = .slice (some ⟨xb, xo, none⟩) rs.length xc := hV 34 _ rfl
                have q35 : v35 = .int .i64 j := hV 35 _ rfl
                have q36 : v36 = .pointer (some ⟨xb, xo + j * 3, none⟩) := hV 36 _ rfl
                have q37 : v37 = .pointer (some ⟨xb, xo + j * 3, none⟩) := hV 37 _ rfl
                have q38 : v38 = .pointer (some ⟨xb, xo + j * 3, none⟩) := hV 38 _ rfl
                have q39 : v39 = .int .u32 oa := hV 39 _ rfl
                have q40 : v40 = .bool true := hV 40 _ rfl
                have q41 : v41 = .bool true := hV 41 _ rfl
                have q42 : v42 = .slice (some ⟨xb, xo, none⟩) rs.length xc := hV 42 _ rfl
                have q43 : v43 = .int .i64 j := hV 43 _ rfl
                have q44 : v44 = .int .i64 m := hV 44 _ rfl
                have q45 : v45 = .pointer (some ⟨xb, xo + m * 3, none⟩) := hV 45 _ rfl
                have q46 : v46 = .pointer (some ⟨xb, xo + m * 3, none⟩) := hV 46 _ rfl
                have q47 : v47 = .pointer (some ⟨xb, xo + m * 3 + 1, none⟩) := hV 47 _ rfl
                have q48 : v48 = .int .i64 ob := hV 48 _ rfl
                have q49 : v49 = .slice (some ⟨xb, xo, none⟩) rs.length xc := hV 49 _ rfl
                have q50 : v50 = .int .i64 j := hV 50 _ rfl
                have q51 : v51 = .pointer (some ⟨xb, xo + j * 3, none⟩) := hV 51 _ rfl
                have q52 : v52 = .pointer (some ⟨xb, xo + j * 3, none⟩) := hV 52 _ rfl
                have q53 : v53 = .pointer (some ⟨xb, xo + j * 3 + 1, none⟩) := hV 53 _ rfl
                have q54 : v54 = .int .i64 pb := hV 54 _ rfl
                have q55 : v55 = .bool false := hV 55 _ rfl
                have q56 : v56 = .bool false := hV 56 _ rfl
                have q57 : v57 = .bool false := hV 57 _ rfl
                have q58 : v58 = .bool false := hV 58 _ rfl
                have q59 : v59 = .bool false := hV 59 _ rfl
                have hbel : Below wr.heap.size wr w5 := hS
                subst q0 q1 q2 q3 q4 q5 q7 q8 q9 q10 q11 q12 q13 q14 q15 q16 q17 q18 q19 q20 q21 q22 q23 q24 q25 q26 q27 q28 q29 q30 q31 q32 q33 q34 q35 q36 q37 q38 q39 q40 q41 q42 q43 q44 q45 q46 q47 q48 q49 q50 q51 q52 q53 q54 q55 q56 q57 q58 q59
                clear hV hS hlen hall
                clear listed
                simp only [lays, Act.put, List.setIfInBounds_toArray, List.set_cons_zero, List.set_cons_succ]
                have hb5 := hbq.trans (hbel.mono hbq.size)
                clear hbel
                go_wp2
                go_roundw
                case rel => exact ⟨j + 1, by omega, by go_num, hb5⟩
                case measure => simp [intOf]; omega
        · obtain rfl : j = rs.length := by omega
          have hbw := HP3.out.bel.trans (hbq.mono HP3.out.bel.size)
          go_wp2
          go_ret
          exact ⟨rfl, hbw⟩
#print axioms plays_law
end Go.Proofs.Ytpepjmcglglepaa
