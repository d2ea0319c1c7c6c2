/- The walks of what reads a segment. -/
import Derived.Test.YtohemlejceiojaaRdr
import Derived.Test.YtohemlejceiojaaSgMath
import Derived.Test.YtohemlejceiojaaSFew
import Derived.Test.YtohemlejceiojaaHdBits
import Derived.Deep.RegionWith
import Derived.Deep.DeepCutAuto
namespace Go.Proofs.Ytohemlejceiojaa
open Go.RowKit
set_option linter.unusedVariables false
set_option maxRecDepth 100000

abbrev PT : TypeId := 54
/-- What a parser of a segment holds; B being what it was made of. -/
def pcB (r : Nat) (P B : ByteArray) (sp dp sq ak fl wi : Nat) (d : ByteArray) : Array Value :=
  #[.pointer (some ⟨r, 0, none⟩), .string P, .string B, .int .i64 (sp : Int), .int .i64 (dp : Int), .int .u32 (sq : Int), .int .u32 (ak : Int), .int .i64 (fl : Int), .int .i64 (wi : Int), .string d]
abbrev pc (r : Nat) (P : ByteArray) (s : List UInt8) (sp dp sq ak fl wi : Nat) (d : ByteArray) : Array Value := pcB r P (ba s) sp dp sq ak fl wi d

theorem and_63 (a : Nat) (h : a < 65536) : bits .and .i64 (a : Int) 63 = ((a % 64 : Nat) : Int) := by
  rw [show (63 : Int) = ((63 : Nat) : Int) from rfl, i64_and a 63 (by omega) (by omega), show (63 : Nat) = 2 ^ 6 - 1 from rfl, Nat.and_two_pow_sub_one_eq_mod]

namespace S
/-- Is the check sum right, with P ahead? -/
def good (P : ByteArray) (s : List UInt8) : Prop := M.ofs [P, ba s] = 0
instance (P : ByteArray) (s : List UInt8) : Decidable (good P s) := by unfold good; exact inferInstance
/-- What is wrong with bytes; 0: nothing. -/
def err6 (P : ByteArray) (s : List UInt8) : Nat := if s.length < 20 then 2 else if H.g s 12 / 16 * 4 < 20 then 3 else if s.length < H.g s 12 / 16 * 4 then 2 else if ¬ good P s then 4 else 0
def err17 (P : ByteArray) (s : List UInt8) : Nat := if s.length < 8 then 2 else if H.sh s 4 < 8 then 3 else if s.length < H.sh s 4 then 2 else if H.sh s 4 < s.length then 5 else if H.sh s 6 ≠ 0 ∧ ¬ good P s then 4 else 0
def err (p : Int) (P : ByteArray) (s : List UInt8) : Nat := if p = 6 then err6 P s else if p = 17 then err17 P s else 1
/-- What a parser holds of bytes that are right. -/
def cs6 (r : Nat) (P : ByteArray) (s : List UInt8) : Array Value := pc r P s (H.sh s 0) (H.sh s 2) (H.wd s 4) (H.wd s 8) (H.g s 13 % 64) (H.sh s 14) (ba (s.drop (H.g s 12 / 16 * 4)))
def cs17 (r : Nat) (P : ByteArray) (s : List UInt8) : Array Value := pc r P s (H.sh s 0) (H.sh s 2) 0 0 0 0 (ba (s.drop 8))
def cs (p : Int) (r : Nat) (P : ByteArray) (s : List UInt8) : Array Value := if p = 6 then cs6 r P s else cs17 r P s
end S

/-- How a parser ends. -/
def Parsed (base p r n : Nat) (s : List UInt8) (cs : Array Value) (w : World) (e : Ending) (w' : World) : Prop :=
  e = .returned (.int .i64 (n : Int)) ∧ Below base w w' ∧ (n = 0 → ∃ k, Pz PT base p r s k cs w')

theorem good2 (A B : ByteArray) (q : Bool) (hq : q = decide (M.ofs [A, B] = 0)) (b : Nat) (w : World) (hb : b < w.heap.size) (h0 : w.cell? ⟨b, 0, none⟩ = some (.string A)) (h1 : w.cell? ⟨b, 1, none⟩ = some (.string B)) (hs : A.size + B.size ≤ 100000) :
    Calls Try.prog 46 #[.slice (some ⟨b, 0, none⟩) 2 2] w fun e w' => e = .returned (.bool q) ∧ Below w.heap.size w w' := by
  obtain ⟨n, hn⟩ : ∃ n, M.ofs [A, B] = n := ⟨_, rfl⟩
  rw [hn] at hq
  have Hn := Lib.hid hn
  clear hn
  by_cases hz : n = 0
  · subst hz
    have hq' : q = true := by rw [hq]; rfl
    subst hq'
    clear hq
    go_enter Try.func46, Try.ntmps46
    go_wp2_with fail
    refine (of_two A B b w hb h0 h1 hs).mono ?_
    rintro e w1 ⟨rfl, hb1⟩
    rw [Hn.out]
    go_wp2
    go_ret
    exact ⟨rfl, hb1⟩
  · have hq' : q = false := by rw [hq]; exact decide_eq_false hz
    subst hq'
    have e : ((n : Int) == 0) = false := by simp; omega
    clear hq
    go_enter Try.func46, Try.ntmps46
    go_wp2_with fail
    refine (of_two A B b w hb h0 h1 hs).mono ?_
    rintro e w1 ⟨rfl, hb1⟩
    rw [Hn.out]
    go_wp2
    go_ret
    exact ⟨rfl, hb1⟩

theorem cellNew (W : World) (cs : Array Value) (t : TypeId) (n i : Nat) (v : Value) (hn : n = W.heap.size) (hv : cs[i]? = some v) : (W.alloc (.cells cs t)).cell? ⟨n, i, none⟩ = some v := by
  subst hn
  simp only [World.cell?, heap_alloc_new]
  exact hv

set_option maxHeartbeats 2000000 in
theorem pgood (base p r : Nat) (s : List UInt8) (k : Nat) (P : ByteArray) (sp dp sq ak fl wi : Nat) (d : ByteArray) (w : World) (h : Pz PT base p r s k (pc r P s sp dp sq ak fl wi d) w) (hs : s.length ≤ 90000) (hP : P.size ≤ 100) (q : Bool) (hq : q = decide (S.good P s)) :
    Calls Try.prog 41 #[.pointer (some ⟨p, 0, none⟩)] w fun e w' => e = .returned (.bool q) ∧ Pz PT base p r s k (pc r P s sp dp sq ak fl wi d) w' ∧ Below base w w' := by
  have Hh := Lib.hid h
  have c1 := h.at 1 (.string P) rfl
  have c2 := h.at 2 (.string (ba s)) rfl
  have hbase := h.base
  have z := ba_size s
  have Hq : Hid (q = decide (M.ofs [P, ba s] = 0)) := Lib.hid hq
  clear hq
  have hlt := h.lt
  clear h
  generalize ba s = A at *
  have hAs : A.size ≤ 90000 := by omega
  clear z
  go_enter Try.func41, Try.ntmps41
  go_wp2
  go_region_with ((go_at_call 46; refine (good2 P A q Hq.out _ _ (by simp) (by first | exact cellNew _ _ _ _ _ _ rfl rfl | simp) (by first | exact cellNew _ _ _ _ _ _ rfl rfl | simp) (by omega)).mono ?_; rintro e w1 ⟨rfl, hb1⟩))
  all_goals
    have hh := ((Hh.out.alloc (.cells #[.string P, .string A] 9)).draw).carry hb1
    have hbw : Below base w w1 := (((Below.refl base w).alloc hbase _).drew).trans (hb1.mono (by simp; omega))
    go_wp2
    go_ret
    exact ⟨rfl, hh, hbw⟩

set_option maxHeartbeats 2000000 in
theorem portsB (base p r : Nat) (P B : ByteArray) (s : List UInt8) (w : World) (h : Pz PT base p r s 0 (pcB r P B 0 0 0 0 0 0 nobytes) w) (hs : s.length ≤ 90000) :
    Calls Try.prog 35 #[.pointer (some ⟨p, 0, none⟩)] w fun e w' => e = .returned (.tuple #[]) ∧ Pz PT base p r s 4 (pcB r P B (H.val s 0 2) (H.val s 2 2) 0 0 0 0 nobytes) w' ∧ Below base w w' := by
  have H0 := Lib.hid h
  have c0 := h.at 0 (.pointer (some ⟨r, 0, none⟩)) rfl
  clear h
  go_enter Try.func35, Try.ntmps35
  go_wp2_with fail
  refine (pshort PT base p r s 0 _ _ H0.out hs).mono ?_
  rintro e w1 ⟨rfl, h1, hb⟩
  clear c0
  have c0 := h1.at 0 (.pointer (some ⟨r, 0, none⟩)) rfl
  have ci := h1.at 3 (.int .i64 0) rfl
  have fi := h1.fz 3
  obtain ⟨hs0, hbs0⟩ := h1.store 3 (.int .i64 ((H.val s 0 2 : Nat) : Int)) (pcB r P B (H.val s 0 2) 0 0 0 0 0 nobytes) rfl
  have H1 := Lib.hid hs0
  have hbx := hb.trans hbs0
  clear H0 h1 hs0 hbs0 hb
  go_wp2_with fail
  clear ci fi
  try go_wp2_with fail
  refine (pshort PT base p r s 2 _ _ H1.out hs).mono ?_
  rintro e w2 ⟨rfl, h2, hb⟩
  clear c0
  have ci := h2.at 4 (.int .i64 0) rfl
  have fi := h2.fz 4
  obtain ⟨hs0, hbs0⟩ := h2.store 4 (.int .i64 ((H.val s 2 2 : Nat) : Int)) (pcB r P B (H.val s 0 2) (H.val s 2 2) 0 0 0 0 nobytes) rfl
  have H2 := Lib.hid hs0
  have hby := (hbx.trans hb).trans hbs0
  clear H1 h2 hs0 hbs0 hb hbx
  go_wp2
  go_end0
  exact ⟨rfl, H2.out, hby⟩

theorem ports_any (base p r : Nat) (P : ByteArray) (s : List UInt8) (w : World) (h : Pz PT base p r s 0 (pc r P s 0 0 0 0 0 0 nobytes) w) (hs : s.length ≤ 90000) :
    Calls Try.prog 35 #[.pointer (some ⟨p, 0, none⟩)] w fun e w' => e = .returned (.tuple #[]) ∧ Pz PT base p r s 4 (pc r P s (H.val s 0 2) (H.val s 2 2) 0 0 0 0 nobytes) w' ∧ Below base w w' := portsB base p r P (ba s) s w h hs

set_option maxHeartbeats 8000000 in
theorem tcp_any (base p r : Nat) (P : ByteArray) (s : List UInt8) (w : World) (h : Pz PT base p r s 0 (pc r P s 0 0 0 0 0 0 nobytes) w) (hs : s.length ≤ 90000) (hP : P.size ≤ 100) :
    Calls Try.prog 29 #[.pointer (some ⟨p, 0, none⟩)] w (Parsed base p r (S.err6 P s) s (S.cs6 r P s) w) := by
  have G2 : Hid (∀ w', S.err6 P s = 2 → Below base w w' → Parsed base p r (S.err6 P s) s (S.cs6 r P s) w (.returned (.int .i64 2)) w') := Lib.hid fun w' h1 h2 => ⟨by rw [h1]; rfl, h2, fun h0 => by rw [h1] at h0; cases h0⟩
  have G3 : Hid (∀ w', S.err6 P s = 3 → Below base w w' → Parsed base p r (S.err6 P s) s (S.cs6 r P s) w (.returned (.int .i64 3)) w') := Lib.hid fun w' h1 h2 => ⟨by rw [h1]; rfl, h2, fun h0 => by rw [h1] at h0; cases h0⟩
  have G4 : Hid (∀ w', S.err6 P s = 4 → Below base w w' → Parsed base p r (S.err6 P s) s (S.cs6 r P s) w (.returned (.int .i64 4)) w') := Lib.hid fun w' h1 h2 => ⟨by rw [h1]; rfl, h2, fun h0 => by rw [h1] at h0; cases h0⟩
  have G0 : Hid (∀ w' k, S.err6 P s = 0 → Below base w w' → Pz PT base p r s k (S.cs6 r P s) w' → Parsed base p r (S.err6 P s) s (S.cs6 r P s) w (.returned (.int .i64 0)) w') := Lib.hid fun w' k h1 h2 h3 => ⟨by rw [h1]; rfl, h2, fun _ => ⟨k, h3⟩⟩
  generalize hG : Parsed base p r (S.err6 P s) s (S.cs6 r P s) w = G at *
  clear hG
  have H0 := Lib.hid h
  clear h
  have b12 := H.val_lt1 s 12
  have b13 := H.val_lt1 s 13
  have k63 := and_63 (H.val s 13 1) (by omega)
  go_enter Try.func29, Try.ntmps29
  go_wp2_with fail
  refine (ports_any base p r P s w H0.out hs).mono ?_
  rintro e w1 ⟨rfl, h1, hb⟩
  have c0 := h1.at 0 (.pointer (some ⟨r, 0, none⟩)) rfl
  have H1 := Lib.hid h1
  clear h1 H0
  go_upto_region 3 with fail
  go_cut [] (fun wr => Pz PT base p r s 12 (pc r P s (H.val s 0 2) (H.val s 2 2) (H.val s 4 4) (H.val s 8 4) 0 0 nobytes) wr ∧ Below base w wr)
  case first =>
    go_region_with (first
      | ((go_at_call 36; refine (pword PT base p r s 4 _ _ (by exact H1.out.draw) hs).mono ?_; rintro e x1 ⟨rfl, y1, hbn1⟩; have c1 := y1.at 0 (.pointer (some ⟨r, 0, none⟩)) rfl))
      | ((go_at_call 36; refine (pword PT base p r s 8 _ _ (by exact y1) hs).mono ?_; rintro e x2 ⟨rfl, y2, hbn⟩; have ca := y2.at 5 (.int .u32 0) rfl; have cb := y2.at 6 (.int .u32 0) rfl; have fa := y2.fz 5; have fb := y2.fz 6)))
    all_goals go_wp2_with fail
    all_goals go_meet
    all_goals first
      | exact ⟨((y2.store 5 (.int .u32 ((H.val s 4 4 : Nat) : Int)) _ rfl).1.store 6 (.int .u32 ((H.val s 8 4 : Nat) : Int)) _ rfl).1, (((hb.drew.trans hbn1).trans hbn).trans (y2.store 5 (.int .u32 ((H.val s 4 4 : Nat) : Int)) _ rfl).2).trans ((y2.store 5 (.int .u32 ((H.val s 4 4 : Nat) : Int)) _ rfl).1.store 6 (.int .u32 ((H.val s 8 4 : Nat) : Int)) _ rfl).2⟩
      | exact ⟨((y2.store 6 (.int .u32 ((H.val s 8 4 : Nat) : Int)) _ rfl).1.store 5 (.int .u32 ((H.val s 4 4 : Nat) : Int)) _ rfl).1, (((hb.drew.trans hbn1).trans hbn).trans (y2.store 6 (.int .u32 ((H.val s 8 4 : Nat) : Int)) _ rfl).2).trans ((y2.store 6 (.int .u32 ((H.val s 8 4 : Nat) : Int)) _ rfl).1.store 5 (.int .u32 ((H.val s 4 4 : Nat) : Int)) _ rfl).2⟩
  clear c0 hb H1
  obtain ⟨h3, hb⟩ := hcut
  generalize wc = w3 at *
  have c0 := h3.at 0 (.pointer (some ⟨r, 0, none⟩)) rfl
  have H3 := Lib.hid h3
  clear h3
  go_wp2_with fail
  refine (pbyte PT base p r s 12 _ _ H3.out hs).mono ?_
  rintro e w4 ⟨rfl, h4, hbn⟩
  clear c0
  have c0 := h4.at 0 (.pointer (some ⟨r, 0, none⟩)) rfl
  have H4 := Lib.hid h4
  have hbx := hb.trans hbn
  clear H3 h4 hbn hb
  have hb := hbx
  clear hbx
  go_upto_region 5 with fail
  go_cut [] (fun wr => Pz PT base p r s 16 (pc r P s (H.val s 0 2) (H.val s 2 2) (H.val s 4 4) (H.val s 8 4) (H.val s 13 1 % 64) (H.val s 14 2) nobytes) wr ∧ Below base w wr)
  case first =>
    go_region_with (first
      | ((go_at_call 37; refine (pbyte PT base p r s 13 _ _ (by exact H4.out.draw) hs).mono ?_; rintro e x1 ⟨rfl, y1, hbn1⟩; have c1 := y1.at 0 (.pointer (some ⟨r, 0, none⟩)) rfl))
      | ((go_at_call 38; refine (pshort PT base p r s 14 _ _ (by exact y1) hs).mono ?_; rintro e x2 ⟨rfl, y2, hbn⟩; have ca := y2.at 7 (.int .i64 0) rfl; have cb := y2.at 8 (.int .i64 0) rfl; have fa := y2.fz 7; have fb := y2.fz 8)))
    all_goals go_wp2_with fail
    all_goals go_meet
    all_goals first
      | exact ⟨((y2.store 7 (.int .i64 ((H.val s 13 1 % 64 : Nat) : Int)) _ rfl).1.store 8 (.int .i64 ((H.val s 14 2 : Nat) : Int)) _ rfl).1, (((hb.drew.trans hbn1).trans hbn).trans (y2.store 7 (.int .i64 ((H.val s 13 1 % 64 : Nat) : Int)) _ rfl).2).trans ((y2.store 7 (.int .i64 ((H.val s 13 1 % 64 : Nat) : Int)) _ rfl).1.store 8 (.int .i64 ((H.val s 14 2 : Nat) : Int)) _ rfl).2⟩
      | exact ⟨((y2.store 8 (.int .i64 ((H.val s 14 2 : Nat) : Int)) _ rfl).1.store 7 (.int .i64 ((H.val s 13 1 % 64 : Nat) : Int)) _ rfl).1, (((hb.drew.trans hbn1).trans hbn).trans (y2.store 8 (.int .i64 ((H.val s 14 2 : Nat) : Int)) _ rfl).2).trans ((y2.store 8 (.int .i64 ((H.val s 14 2 : Nat) : Int)) _ rfl).1.store 7 (.int .i64 ((H.val s 13 1 % 64 : Nat) : Int)) _ rfl).2⟩
  clear c0 hb H4
  obtain ⟨h5, hb⟩ := hcut
  generalize wc = w5 at *
  have c0 := h5.at 0 (.pointer (some ⟨r, 0, none⟩)) rfl
  have H5 := Lib.hid h5
  clear h5
  clear k63
  go_wp2_with fail
  refine (pword PT base p r s 16 _ _ H5.out hs).mono ?_
  rintro e w6 ⟨rfl, h6, hbn⟩
  clear c0
  have c0 := h6.at 0 (.pointer (some ⟨r, 0, none⟩)) rfl
  have H6 := Lib.hid h6
  have hbx := hb.trans hbn
  clear H5 h6 hbn hb
  have hb := hbx
  clear hbx
  go_wp2_with fail
  refine (pok PT base p r s 20 _ _ H6.out).mono ?_
  rintro e w7 ⟨rfl, rfl⟩
  by_cases hlen : 20 ≤ s.length
  case neg =>
    rw [decide_eq_false hlen]
    go_wp2
    exact G2.out _ (by unfold S.err6; rw [if_pos (by omega)]) hb
  rw [decide_eq_true hlen]
  have hh := H6.out
  rw [H.val_2 s 0 (by omega), H.val_2 s 2 (by omega), H.val_4 s 4 (by omega), H.val_4 s 8 (by omega), H.val_1 s 13 (by omega), H.val_2 s 14 (by omega)] at hh
  rw [H.val_1 s 12 (by omega)]
  rw [H.val_1 s 12 (by omega)] at b12
  have H6' := Lib.hid hh
  have He : Hid (S.err6 P s = if H.g s 12 / 16 * 4 < 20 then 3 else if s.length < H.g s 12 / 16 * 4 then 2 else if ¬ S.good P s then 4 else 0) := Lib.hid (by unfold S.err6; rw [if_neg (by omega)])
  have Hcs : Hid (S.cs6 r P s = pc r P s (H.sh s 0) (H.sh s 2) (H.wd s 4) (H.wd s 8) (H.g s 13 % 64) (H.sh s 14) (ba (s.drop (H.g s 12 / 16 * 4)))) := Lib.hid rfl
  clear hh H6 b13
  generalize H.g s 12 = f at *
  obtain ⟨f4, hf4⟩ : ∃ f4, f / 16 = f4 := ⟨_, rfl⟩
  have v0 : (f : Int) / 16 = (f4 : Int) := by omega
  have hf16 : f4 < 16 := by omega
  rw [v0]
  rw [hf4] at He Hcs
  clear v0 hf4 b12
  by_cases hn : f4 * 4 < 20
  · go_wp2
    exact G3.out _ (by rw [He.out, if_pos hn]) hb
  obtain ⟨n, hn2⟩ : ∃ n, f4 * 4 = 20 + n := ⟨f4 * 4 - 20, by omega⟩
  have vn : (f4 : Int) * 4 - 20 = (n : Int) := by omega
  have hz := ba_size s
  by_cases hfit : 20 + n ≤ s.length
  case neg =>
    go_wp2_with fail
    refine (ptake_no PT base p r s 20 n _ _ H6'.out hs (by omega)).mono ?_
    rintro e w8 ⟨rfl, h8, hbn⟩
    clear c0
    have c0 := h8.at 0 (.pointer (some ⟨r, 0, none⟩)) rfl
    have hbx := hb.trans hbn
    have H8 := Lib.hid h8
    clear H6' h8 hbn hb
    go_wp2_with fail
    refine (pok PT base p r s _ _ _ H8.out).mono ?_
    rintro e w9 ⟨rfl, rfl⟩
    rw [decide_eq_false (by omega)]
    go_wp2
    exact G2.out _ (by rw [He.out, if_neg hn, if_pos (by omega)]) hbx
  go_wp2_with fail
  refine (ptake PT base p r s 20 n _ _ H6'.out hs hfit).mono ?_
  rintro e w8 ⟨rfl, h8, hbn⟩
  clear c0
  have c0 := h8.at 0 (.pointer (some ⟨r, 0, none⟩)) rfl
  have hbx := hb.trans hbn
  have H8 := Lib.hid h8
  clear H6' h8 hbn hb
  go_wp2_with fail
  refine (pok PT base p r s _ _ _ H8.out).mono ?_
  rintro e w9 ⟨rfl, rfl⟩
  rw [decide_eq_true hfit]
  go_wp2_with fail
  by_cases hg : S.good P s
  case neg =>
    refine (pgood base p r s _ P _ _ _ _ _ _ _ _ H8.out hs hP false (decide_eq_false hg).symm).mono ?_
    rintro e w10 ⟨rfl, h10, hbn⟩
    have hby := hbx.trans hbn
    have Hg := Lib.hid hg
    clear H8 h10 hbn hbx c0 hg
    go_wp2
    exact G4.out _ (by rw [He.out, if_neg hn, if_neg (by omega), if_pos Hg.out]) hby
  refine (pgood base p r s _ P _ _ _ _ _ _ _ _ H8.out hs hP true (decide_eq_true hg).symm).mono ?_
  rintro e w10 ⟨rfl, h10, hbn⟩
  have hby := hbx.trans hbn
  have Hg := Lib.hid hg
  clear c0
  have c0 := h10.at 0 (.pointer (some ⟨r, 0, none⟩)) rfl
  have H10 := Lib.hid h10
  clear H8 h10 hbn hbx hg
  go_wp2_with fail
  refine (prest PT base p r s _ _ _ H10.out hs hfit).mono ?_
  rintro e w11 ⟨rfl, h11, hbn, _⟩
  have ci := h11.at 9 (.string nobytes) rfl
  have fi := h11.fz 9
  obtain ⟨hs0, hbs0⟩ := h11.store 9 (.string (ba (s.drop (20 + n)))) (S.cs6 r P s) (by rw [Hcs.out, hn2]; rfl)
  have hbz := (hby.trans hbn).trans hbs0
  have Hend := Lib.hid (G0.out _ _ (by rw [He.out, if_neg hn, if_neg (by omega), if_neg (not_not_intro Hg.out)]) hbz hs0)
  clear hs0 hbs0 hbz H10 h11 hbn hby c0 Hcs
  generalize ba (s.drop (20 + n)) = dd at *
  go_wp2
  exact Hend.out

set_option maxHeartbeats 8000000 in
theorem udp_any (base p r : Nat) (P : ByteArray) (s : List UInt8) (w : World) (h : Pz PT base p r s 0 (pc r P s 0 0 0 0 0 0 nobytes) w) (hs : s.length ≤ 90000) (hP : P.size ≤ 100) :
    Calls Try.prog 30 #[.pointer (some ⟨p, 0, none⟩)] w (Parsed base p r (S.err17 P s) s (S.cs17 r P s) w) := by
  have G2 : Hid (∀ w', S.err17 P s = 2 → Below base w w' → Parsed base p r (S.err17 P s) s (S.cs17 r P s) w (.returned (.int .i64 2)) w') := Lib.hid fun w' h1 h2 => ⟨by rw [h1]; rfl, h2, fun h0 => by rw [h1] at h0; cases h0⟩
  have G3 : Hid (∀ w', S.err17 P s = 3 → Below base w w' → Parsed base p r (S.err17 P s) s (S.cs17 r P s) w (.returned (.int .i64 3)) w') := Lib.hid fun w' h1 h2 => ⟨by rw [h1]; rfl, h2, fun h0 => by rw [h1] at h0; cases h0⟩
  have G4 : Hid (∀ w', S.err17 P s = 4 → Below base w w' → Parsed base p r (S.err17 P s) s (S.cs17 r P s) w (.returned (.int .i64 4)) w') := Lib.hid fun w' h1 h2 => ⟨by rw [h1]; rfl, h2, fun h0 => by rw [h1] at h0; cases h0⟩
  have G5 : Hid (∀ w', S.err17 P s = 5 → Below base w w' → Parsed base p r (S.err17 P s) s (S.cs17 r P s) w (.returned (.int .i64 5)) w') := Lib.hid fun w' h1 h2 => ⟨by rw [h1]; rfl, h2, fun h0 => by rw [h1] at h0; cases h0⟩
  have G0 : Hid (∀ w' k, S.err17 P s = 0 → Below base w w' → Pz PT base p r s k (S.cs17 r P s) w' → Parsed base p r (S.err17 P s) s (S.cs17 r P s) w (.returned (.int .i64 0)) w') := Lib.hid fun w' k h1 h2 h3 => ⟨by rw [h1]; rfl, h2, fun _ => ⟨k, h3⟩⟩
  generalize hG : Parsed base p r (S.err17 P s) s (S.cs17 r P s) w = G at *
  clear hG
  have H0 := Lib.hid h
  clear h
  go_enter Try.func30, Try.ntmps30
  go_wp2_with fail
  refine (ports_any base p r P s w H0.out hs).mono ?_
  rintro e w1 ⟨rfl, h1, hb⟩
  have c0 := h1.at 0 (.pointer (some ⟨r, 0, none⟩)) rfl
  have H1 := Lib.hid h1
  clear h1 H0
  go_upto_region 2 with fail
  go_cut [3, 4] (fun x y wr => x = .int .i64 ((H.val s 4 2 : Nat) : Int) ∧ y = .int .i64 ((H.val s 6 2 : Nat) : Int) ∧ Pz PT base p r s 8 (pc r P s (H.val s 0 2) (H.val s 2 2) 0 0 0 0 nobytes) wr ∧ Below base w wr)
  case first =>
    go_region_with (first
      | ((go_at_call 38; refine (pshort PT base p r s 4 _ _ (by exact H1.out.draw) hs).mono ?_; rintro e x1 ⟨rfl, y1, hbn1⟩; have c1 := y1.at 0 (.pointer (some ⟨r, 0, none⟩)) rfl))
      | ((go_at_call 38; refine (pshort PT base p r s 6 _ _ (by exact y1) hs).mono ?_; rintro e x2 ⟨rfl, y2, hbn⟩)))
    all_goals go_wp2_with fail
    all_goals go_meet
    all_goals exact ⟨rfl, rfl, y2, (hb.drew.trans hbn1).trans hbn⟩
  clear c0 hb H1
  obtain ⟨rfl, rfl, h2, hb⟩ := hcut
  generalize wc = w2 at *
  have c0 := h2.at 0 (.pointer (some ⟨r, 0, none⟩)) rfl
  have c2 := h2.at 2 (.string (ba s)) rfl
  have H2 := Lib.hid h2
  clear h2
  go_wp2_with fail
  refine (pok PT base p r s 8 _ _ H2.out).mono ?_
  rintro e w3 ⟨rfl, rfl⟩
  by_cases hlen : 8 ≤ s.length
  case neg =>
    rw [decide_eq_false hlen]
    go_wp2
    exact G2.out _ (by unfold S.err17; rw [if_pos (by omega)]) hb
  rw [decide_eq_true hlen]
  have hh := H2.out
  rw [H.val_2 s 0 (by omega), H.val_2 s 2 (by omega)] at hh
  rw [H.val_2 s 4 (by omega), H.val_2 s 6 (by omega)]
  have H2' := Lib.hid hh
  have He : Hid (S.err17 P s = if H.sh s 4 < 8 then 3 else if s.length < H.sh s 4 then 2 else if H.sh s 4 < s.length then 5 else if H.sh s 6 ≠ 0 ∧ ¬ S.good P s then 4 else 0) := Lib.hid (by unfold S.err17; rw [if_neg (by omega)])
  have Hcs : Hid (S.cs17 r P s = pc r P s (H.sh s 0) (H.sh s 2) 0 0 0 0 (ba (s.drop 8))) := Lib.hid rfl
  have hz := ba_size s
  have z4 := H.sh_lt s 4
  have z6 := H.sh_lt s 6
  clear hh H2
  generalize H.sh s 4 = z at *
  generalize H.sh s 6 = c at *
  by_cases hn : z < 8
  · go_wp2
    exact G3.out _ (by rw [He.out, if_pos hn]) hb
  by_cases hn2 : s.length < z
  · go_wp2
    exact G2.out _ (by rw [He.out, if_neg hn, if_pos hn2]) hb
  by_cases hn3 : z < s.length
  · go_wp2
    exact G5.out _ (by rw [He.out, if_neg hn, if_neg hn2, if_pos hn3]) hb
  by_cases hc : c = 0
  · subst hc
    have He0 := Lib.hid (show S.err17 P s = 0 by rw [He.out, if_neg hn, if_neg hn2, if_neg hn3, if_neg (fun h => h.1 rfl)])
    clear He
    go_wp2_with fail
    refine (prest PT base p r s _ _ _ H2'.out hs hlen).mono ?_
    rintro e w11 ⟨rfl, h11, hbn, _⟩
    have ci := h11.at 9 (.string nobytes) rfl
    have fi := h11.fz 9
    obtain ⟨hs0, hbs0⟩ := h11.store 9 (.string (ba (s.drop 8))) (S.cs17 r P s) (by rw [Hcs.out]; rfl)
    have Hend := Lib.hid (G0.out _ _ He0.out ((hb.trans hbn).trans hbs0) hs0)
    clear hs0 hbs0 h11 hbn hb c0 Hcs
    generalize ba (s.drop 8) = dd at *
    go_wp2
    exact Hend.out
  have ec : ((c : Int) != 0) = true := by simp; omega
  go_wp2_with fail
  by_cases hg : S.good P s
  case neg =>
    refine (pgood base p r s _ P _ _ _ _ _ _ _ _ H2'.out hs hP false (decide_eq_false hg).symm).mono ?_
    rintro e w10 ⟨rfl, h10, hbn⟩
    have hby := hb.trans hbn
    have He0 := Lib.hid (show S.err17 P s = 4 by rw [He.out, if_neg hn, if_neg hn2, if_neg hn3, if_pos ⟨hc, hg⟩])
    clear H2' h10 hbn hb c0 hg He
    go_wp2
    exact G4.out _ He0.out hby
  refine (pgood base p r s _ P _ _ _ _ _ _ _ _ H2'.out hs hP true (decide_eq_true hg).symm).mono ?_
  rintro e w10 ⟨rfl, h10, hbn⟩
  have hby := hb.trans hbn
  have He0 := Lib.hid (show S.err17 P s = 0 by rw [He.out, if_neg hn, if_neg hn2, if_neg hn3, if_neg (fun h => h.2 hg)])
  clear c0
  have c0 := h10.at 0 (.pointer (some ⟨r, 0, none⟩)) rfl
  have H10 := Lib.hid h10
  clear H2' h10 hbn hb hg He
  go_wp2_with fail
  refine (prest PT base p r s _ _ _ H10.out hs hlen).mono ?_
  rintro e w11 ⟨rfl, h11, hbn, _⟩
  have ci := h11.at 9 (.string nobytes) rfl
  have fi := h11.fz 9
  obtain ⟨hs0, hbs0⟩ := h11.store 9 (.string (ba (s.drop 8))) (S.cs17 r P s) (by rw [Hcs.out]; rfl)
  have Hend := Lib.hid (G0.out _ _ He0.out ((hby.trans hbn).trans hbs0) hs0)
  clear hs0 hbs0 H10 h11 hbn hby c0 Hcs
  generalize ba (s.drop 8) = dd at *
  go_wp2
  exact Hend.out
#print axioms tcp_any
#print axioms udp_any
end Go.Proofs.Ytohemlejceiojaa
