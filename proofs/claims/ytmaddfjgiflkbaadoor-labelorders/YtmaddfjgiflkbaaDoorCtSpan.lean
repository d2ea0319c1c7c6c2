/- The walk of what stands between two commas. -/
import Derived.Test.YtmaddfjgiflkbaaDoorCtCat
namespace Go.Proofs.YtmaddfjgiflkbaaDoor
set_option maxRecDepth 100000
open Go.RowKit
set_option maxRecDepth 100000
set_option linter.unusedVariables false

namespace C
def headOf (s : ByteArray) : ByteArray := ⟨(Lib.cut s.data.toList [45]).1.toArray⟩
def tailOf (s : ByteArray) : ByteArray := if (Lib.cut s.data.toList [45]).2.2 then ⟨(Lib.cut s.data.toList [45]).2.1.toArray⟩ else headOf s
end C
/-- What span hands back. -/
def SpanPost (s : ByteArray) (w : World) (e : Ending) (w' : World) : Prop :=
  ∃ k l : Int, e = .returned (.tuple #[.int .i64 k, .int .i64 l, .bool (C.catOk (C.headOf s) && C.catOk (C.tailOf s))]) ∧
    (C.catOk (C.headOf s) = true → Lib.atoiAll (C.headOf s).data.toList = .ok k ∧ 0 ≤ k ∧ k ≤ 239) ∧ (C.catOk (C.tailOf s) = true → Lib.atoiAll (C.tailOf s).data.toList = .ok l ∧ 0 ≤ l ∧ l ≤ 239) ∧ Below w.heap.size w w'

theorem ret_three {a b c d : Int} {p q : Bool} (h1 : a = b) (h2 : c = d) (h3 : p = q) : Ending.returned (.tuple #[.int .i64 a, .int .i64 c, .bool p]) = .returned (.tuple #[.int .i64 b, .int .i64 d, .bool q]) := by rw [h1, h2, h3]

set_option maxHeartbeats 2000000 in
theorem span_any (s : ByteArray) (w : World) (L : LaidF w) (hl : s.size ≤ 100000) (hh : (C.headOf s).size ≤ 100000) (ht : (C.tailOf s).size ≤ 100000) :
    Calls Tryd.prog 55 #[.string s] w (SpanPost s w) := by
  obtain ⟨m, hm⟩ := L.most
  have HL := Lib.hid L
  have HCut : Hid (Calls Tryd.prog 61 #[.string s, .string ⟨#[45]⟩] w fun e w' => e = .returned (.tuple #[.string (C.headOf s), .string ⟨(Lib.cut s.data.toList [45]).2.1.toArray⟩, .bool (Lib.cut s.data.toList [45]).2.2]) ∧ ∃ n, w' = w.drewN n) := Lib.hid (Tryd.strings_Cut s ⟨#[45]⟩ m w (by omega) hm)
  have HT : Hid (C.tailOf s = if (Lib.cut s.data.toList [45]).2.2 then ⟨(Lib.cut s.data.toList [45]).2.1.toArray⟩ else C.headOf s) := Lib.hid rfl
  obtain ⟨P, hP⟩ : ∃ P, SpanPost s w = P := ⟨_, rfl⟩
  have HP : Hid (∀ k l e w', e = .returned (.tuple #[.int .i64 k, .int .i64 l, .bool (C.catOk (C.headOf s) && C.catOk (C.tailOf s))]) → (C.catOk (C.headOf s) = true → Lib.atoiAll (C.headOf s).data.toList = .ok k ∧ 0 ≤ k ∧ k ≤ 239) → (C.catOk (C.tailOf s) = true → Lib.atoiAll (C.tailOf s).data.toList = .ok l ∧ 0 ≤ l ∧ l ≤ 239) → Below w.heap.size w w' → P e w') := Lib.hid (fun k l e w' h1 h2 h3 h4 => by rw [← hP]; exact ⟨k, l, h1, h2, h3, h4⟩)
  rw [hP]
  clear hP L hm
  generalize C.headOf s = H at *
  generalize hTl : C.tailOf s = T at *
  clear hTl
  generalize (⟨(Lib.cut s.data.toList [45]).2.1.toArray⟩ : ByteArray) = Q at *
  generalize (Lib.cut s.data.toList [45]).2.2 = b at *
  have HB : Hid (∀ n, Below w.heap.size w (w.drewN n)) := Lib.hid (fun n => below_drewN (Below.refl _ w) n)
  cases b
  · obtain rfl : H = T := by have := HT.out; simpa using this.symm
    go_enter Tryd.func55, Tryd.ntmps55
    go_wp2_with fail
    refine HCut.out.mono ?_
    rintro e w1 ⟨rfl, n, rfl⟩
    have hb1 := HB.out n
    have HL1 := Lib.hid (HL.out.below hb1)
    generalize w.drewN n = w1 at *
    go_wp2_with fail
    refine (category_any H w1 HL1.out hh).mono ?_
    rintro e w2 ⟨k, rfl, hk, hb2⟩
    have HK := Lib.hid hk
    have hbw2 := hb1.trans (hb2.mono hb1.size)
    have HL2 := Lib.hid (HL1.out.below hb2)
    clear hk hb2
    go_wp2_with fail
    refine (category_any H w2 HL2.out ht).mono ?_
    rintro e w3 ⟨l, rfl, hl3, hb3⟩
    have HK3 := Lib.hid hl3
    have hbw3 := hbw2.trans (hb3.mono hbw2.size)
    clear hl3 hb3 HCut HT
    generalize hc1 : C.catOk H = c1 at *
    
    cases c1
    · go_wp2
      refine bodyPost_ret (v := .tuple #[.int .i64 k, .int .i64 l, .bool false]) (by simp [results, Tryd.results55, go_sem]) rfl ?_
      exact HP.out k l _ _ rfl HK.out HK3.out hbw3
    · go_wp2
      refine bodyPost_ret (v := .tuple #[.int .i64 k, .int .i64 l, .bool true]) (by simp [results, Tryd.results55, go_sem]) rfl ?_
      exact HP.out k l _ _ rfl HK.out HK3.out hbw3
  · obtain rfl : T = Q := by have := HT.out; simpa using this
    go_enter Tryd.func55, Tryd.ntmps55
    go_wp2_with fail
    refine HCut.out.mono ?_
    rintro e w1 ⟨rfl, n, rfl⟩
    have hb1 := HB.out n
    have HL1 := Lib.hid (HL.out.below hb1)
    generalize w.drewN n = w1 at *
    go_wp2_with fail
    refine (category_any H w1 HL1.out hh).mono ?_
    rintro e w2 ⟨k, rfl, hk, hb2⟩
    have HK := Lib.hid hk
    have hbw2 := hb1.trans (hb2.mono hb1.size)
    have HL2 := Lib.hid (HL1.out.below hb2)
    clear hk hb2
    go_wp2_with fail
    refine (category_any T w2 HL2.out ht).mono ?_
    rintro e w3 ⟨l, rfl, hl3, hb3⟩
    have HK3 := Lib.hid hl3
    have hbw3 := hbw2.trans (hb3.mono hbw2.size)
    clear hl3 hb3 HCut HT
    generalize hc1 : C.catOk H = c1 at *
    generalize hc2 : C.catOk T = c2 at *
    cases c1
    · go_wp2
      refine bodyPost_ret (v := .tuple #[.int .i64 k, .int .i64 l, .bool false]) (by simp [results, Tryd.results55, go_sem]) rfl ?_
      exact HP.out k l _ _ rfl HK.out HK3.out hbw3
    · go_wp2
      refine bodyPost_ret (v := .tuple #[.int .i64 k, .int .i64 l, .bool c2]) (by simp [results, Tryd.results55, go_sem]) rfl ?_
      exact HP.out k l _ _ rfl HK.out HK3.out hbw3
#print axioms span_any
end Go.Proofs.YtmaddfjgiflkbaaDoor
