/- The walks of what compares two labels, and asks whether one lies between two. -/
import Derived.Test.YtmaddfjgiflkbaaDoorLbLow
import Derived.Lib.BytesEntry
import Derived.Lib.Bytealg
namespace Go.Proofs.YtmaddfjgiflkbaaDoor
set_option maxRecDepth 100000
open Go.RowKit
set_option maxRecDepth 100000
set_option linter.unusedVariables false
namespace C
/-- The first k bytes of a set, as a number. -/
def hi (n k : Nat) : Nat := n / 2 ^ (8 * (30 - k))
/-- Which of two numbers comes first. -/
def cmpN (n m : Nat) : Int := if n < m then -1 else if m < n then 1 else 0
theorem hi_zero (n : Nat) (h : n < 2 ^ 240) : hi n 0 = 0 := Nat.div_eq_of_lt h
theorem hi_all (n : Nat) : hi n 30 = n := by unfold hi; simp
theorem hi_succ (n k : Nat) (h : k < 30) : hi n (k + 1) = 256 * hi n k + byte n k := by
  unfold hi byte
  rw [show 8 * (30 - (k + 1)) = 8 * (29 - k) by omega, show 8 * (30 - k) = 8 * (29 - k) + 8 by omega, Nat.pow_add, ← Nat.div_div_eq_div_mul]
  exact (Nat.div_add_mod _ 256).symm
theorem hi_lt {n m k : Nat} (h : hi n k < hi m k) : n < m := by
  rcases Nat.lt_or_ge n m with h1 | h1
  · exact h1
  · have : hi m k ≤ hi n k := Nat.div_le_div_right h1
    omega
theorem cmp_same (n : Nat) : cmpN n n = 0 := by unfold cmpN; rw [if_neg (Nat.lt_irrefl n), if_neg (Nat.lt_irrefl n)]
/-- The bytes from k on. -/
def lf (n : Nat) : Nat → Nat → List UInt8
  | _, 0 => []
  | k, d + 1 => (byte n k).toUInt8 :: lf n (k + 1) d
theorem u8_nat (x : Nat) (h : x < 256) : x.toUInt8.toNat = x := by
  show x % 2 ^ 8 = x
  exact Nat.mod_eq_of_lt h
theorem cmp_lf (n m : Nat) : ∀ d k, k + d = 30 → hi n k = hi m k → Lib.compareBytes (lf n k d) (lf m k d) = cmpN n m
  | 0, k, hk, h => by
    obtain rfl : k = 30 := by omega
    rw [hi_all, hi_all] at h
    subst h
    rw [cmp_same]
    rfl
  | d + 1, k, hk, h => by
    have s1 := hi_succ n k (by omega)
    have s2 := hi_succ m k (by omega)
    have b1 := byte_lt n k
    have b2 := byte_lt m k
    unfold lf Lib.compareBytes
    have i1 : (byte n k).toUInt8 < (byte m k).toUInt8 ↔ byte n k < byte m k := by rw [UInt8.lt_iff_toNat_lt, u8_nat _ b1, u8_nat _ b2]
    have i2 : (byte m k).toUInt8 < (byte n k).toUInt8 ↔ byte m k < byte n k := by rw [UInt8.lt_iff_toNat_lt, u8_nat _ b1, u8_nat _ b2]
    by_cases h1 : byte n k < byte m k
    · rw [if_pos (i1.2 h1)]
      have : n < m := hi_lt (k := k + 1) (by omega)
      unfold cmpN; rw [if_pos this]
    · rw [if_neg (fun h => h1 (i1.1 h))]
      by_cases h2 : byte m k < byte n k
      · rw [if_pos (i2.2 h2)]
        have : m < n := hi_lt (k := k + 1) (by omega)
        unfold cmpN; rw [if_neg (by omega), if_pos this]
      · rw [if_neg (fun h => h2 (i2.1 h))]
        exact cmp_lf n m d (k + 1) (by omega) (by omega)
def xs (n : Nat) : List Int := (List.range 30).map fun i => ((byte n i : Nat) : Int)
theorem lf_get (n : Nat) : ∀ d k i, i < d → (lf n k d)[i]? = some (byte n (k + i)).toUInt8
  | 0, k, i, h => by omega
  | d + 1, k, 0, _ => by simp [lf]
  | d + 1, k, i + 1, h => by
    simp only [lf, List.getElem?_cons_succ]
    rw [lf_get n d (k + 1) i (by omega), show k + 1 + i = k + (i + 1) by omega]
theorem lf_len (n : Nat) : ∀ d k, (lf n k d).length = d
  | 0, _ => rfl
  | d + 1, k => by simp [lf, lf_len n d (k + 1)]
theorem xs_lf (n : Nat) : Lib.bytesOf (xs n) = lf n 0 30 := by
  apply List.ext_getElem?
  intro i
  by_cases h : i < 30
  · rw [lf_get n 30 0 i h, Nat.zero_add]
    simp [Lib.bytesOf, xs, h]
  · rw [List.getElem?_eq_none (by simp [Lib.bytesOf, xs]; omega), List.getElem?_eq_none (by rw [lf_len]; omega)]
end C
theorem empty_app (l : List UInt8) : (⟨ByteArray.empty.data ++ l.toArray⟩ : ByteArray) = ⟨l.toArray⟩ := by
  apply ByteArray.ext
  simp
theorem run_bytes_lab {P : Program} (w : World) (g n : Nat) (z : Int) (h : LabAt w g z n) : (Extern.Bytes.bytesOf (.slice (some ⟨g, 1, none⟩) 30 30)).run P w = .ok ⟨(C.lf n 0 30).toArray⟩ w := by
  have hl := Lib.run_loadBytesX (P := P) w (C.xs n) ⟨g, 1, none⟩ .empty (fun j x hj => by
    have hjl : j < 30 := by have := (List.getElem?_eq_some_iff.1 hj).1; simpa [C.xs] using this
    rw [Addr.add_lit, h.byte j hjl]
    have : (C.xs n)[j]? = some ((C.byte n j : Nat) : Int) := by simp [C.xs, hjl]
    rw [this] at hj
    simp only [Option.some.injEq] at hj
    rw [hj])
  rw [show (C.xs n).length = 30 by simp [C.xs], C.xs_lf] at hl
  unfold Extern.Bytes.bytesOf
  rw [hl, empty_app]
theorem run_compare_of {P : Program} (w : World) (a b : Value) (x v : List UInt8) (c : Int) (hb1 : (Extern.Bytes.bytesOf a).run P w = .ok ⟨x.toArray⟩ w) (hb2 : (Extern.Bytes.bytesOf b).run P w = .ok ⟨v.toArray⟩ w) (hc : Lib.compareBytes x v = c) :
    (Extern.BytealgCompare.compare #[a, b]).run P w = .ok (.int .i64 c) w := by
  change Sem.run P (do pure (goInt (Extern.BytealgCompare.cmp (← Extern.Bytes.bytesOf a) (← Extern.Bytes.bytesOf b)))) w = _
  have he : Extern.BytealgCompare.cmp ⟨x.toArray⟩ ⟨v.toArray⟩ = c := by rw [Lib.cmp_eq]; exact hc
  simp only [Sem.run_bind, hb1, hb2, Sem.run_pure, Result.andThen]
  rw [he]
  rfl
theorem cmp_lf30 (n m : Nat) (hn : n < 2 ^ 240) (hm : m < 2 ^ 240) : Lib.compareBytes (C.lf n 0 30) (C.lf m 0 30) = C.cmpN n m :=
  C.cmp_lf n m 30 0 (Nat.zero_add 30) ((C.hi_zero n hn).trans (C.hi_zero m hm).symm)
theorem run_compare_labs {P : Program} (w : World) (g h n m : Nat) (z y : Int) (hn : n < 2 ^ 240) (hm : m < 2 ^ 240) (hg : LabAt w g z n) (hh : LabAt w h y m) :
    (Extern.BytealgCompare.compare #[.slice (some ⟨g, 1, none⟩) 30 30, .slice (some ⟨h, 1, none⟩) 30 30]).run P w = .ok (.int .i64 (C.cmpN n m)) w :=
  run_compare_of w _ _ _ _ _ (run_bytes_lab (P := P) w g n z hg) (run_bytes_lab (P := P) w h m y hh) (cmp_lf30 n m hn hm)
theorem BCmp_any (w : World) (g h n m : Nat) (z y : Int) (hn : n < 2 ^ 240) (hm : m < 2 ^ 240) (hg : LabAt w g z n) (hh : LabAt w h y m) :
    Calls Tryd.prog 58 #[.slice (some ⟨g, 1, none⟩) 30 30, .slice (some ⟨h, 1, none⟩) 30 30] w fun e w' => e = .returned (.int .i64 (C.cmpN n m)) ∧ Below w.heap.size w w' := by
  have hr := run_compare_labs (P := Tryd.prog) w g h n m z y hn hm hg hh
  go_enter Tryd.func58, Tryd.ntmps58
  go_wp2
  rw [run_callFunc_extern Tryd.func81 (by kernel_rfl) (by kernel_rfl) (by kernel_rfl) (e := Extern.BytealgCompare.compare) (by kernel_rfl), hr]
  simp only [Result.andThen]
  rw [Oper.upon_value]
  go_wp2
  go_ret
  exact ⟨rfl, Below.refl _ _⟩

namespace L
def cmpZ (z y : Int) : Int := if z < y then -1 else if y < z then 1 else 0
def cmp (z : Int) (n : Nat) (y : Int) (m : Nat) : Int := if z = y then C.cmpN n m else cmpZ z y
end L
theorem nan_any (z : Int) (w : World) : Calls Tryd.prog 80 #[.int .i64 z] w fun e w' => e = .returned (.bool false) ∧ w = w' := by
  go_enter Tryd.func80, Tryd.ntmps80
  go_wp2
  go_ret
  exact ⟨rfl, rfl⟩
theorem CmpI_any (z y : Int) (w : World) : Calls Tryd.prog 57 #[.int .i64 z, .int .i64 y] w fun e w' => e = .returned (.int .i64 (L.cmpZ z y)) ∧ w = w' := by
  obtain ⟨q, hq⟩ : ∃ q, L.cmpZ z y = q := ⟨_, rfl⟩
  have Hq := Lib.hid hq
  rw [hq]
  clear hq
  by_cases h1 : z < y
  · have G : Hid (q = -1) := Lib.hid (by rw [← Hq.out]; unfold L.cmpZ; rw [if_pos h1])
    go_enter Tryd.func57, Tryd.ntmps57
    go_wp2_with fail
    refine (nan_any z _).mono ?_
    rintro e w1 ⟨rfl, rfl⟩
    go_wp2_with fail
    refine (nan_any y _).mono ?_
    rintro e w1 ⟨rfl, rfl⟩
    go_wp2
    go_ret
    exact ⟨by rw [G.out]; rfl, rfl⟩
  by_cases h2 : y < z
  · have G : Hid (q = 1) := Lib.hid (by rw [← Hq.out]; unfold L.cmpZ; rw [if_neg h1, if_pos h2])
    go_enter Tryd.func57, Tryd.ntmps57
    go_wp2_with fail
    refine (nan_any z _).mono ?_
    rintro e w1 ⟨rfl, rfl⟩
    go_wp2_with fail
    refine (nan_any y _).mono ?_
    rintro e w1 ⟨rfl, rfl⟩
    go_wp2
    go_ret
    exact ⟨by rw [G.out]; rfl, rfl⟩
  · have G : Hid (q = 0) := Lib.hid (by rw [← Hq.out]; unfold L.cmpZ; rw [if_neg h1, if_neg h2])
    go_enter Tryd.func57, Tryd.ntmps57
    go_wp2_with fail
    refine (nan_any z _).mono ?_
    rintro e w1 ⟨rfl, rfl⟩
    go_wp2_with fail
    refine (nan_any y _).mono ?_
    rintro e w1 ⟨rfl, rfl⟩
    go_wp2
    go_ret
    exact ⟨by rw [G.out]; rfl, rfl⟩
namespace LbCmp
theorem vs_cons {n : Nat} (vs : List Value) (h : vs.length = n + 1) : ∃ v r, vs = v :: r ∧ r.length = n := by
  cases vs with
  | nil => simp at h
  | cons v r => exact ⟨v, r, rfl, by simpa using h⟩
theorem vs_6 (vs : List Value) (h : vs.length = 6) : ∃ v0 v1 v2 v3 v4 v5, vs = [v0, v1, v2, v3, v4, v5] := by
  obtain ⟨v0, r0, rfl, h0⟩ := vs_cons vs h
  obtain ⟨v1, r1, rfl, h1⟩ := vs_cons r0 h0
  obtain ⟨v2, r2, rfl, h2⟩ := vs_cons r1 h1
  obtain ⟨v3, r3, rfl, h3⟩ := vs_cons r2 h2
  obtain ⟨v4, r4, rfl, h4⟩ := vs_cons r3 h3
  obtain ⟨v5, r5, rfl, h5⟩ := vs_cons r4 h4
  obtain rfl := List.eq_nil_of_length_eq_zero h5
  exact ⟨v0, v1, v2, v3, v4, v5, rfl⟩

set_option maxHeartbeats 4000000 in
theorem _root_.Go.Proofs.YtmaddfjgiflkbaaDoor.LCmp_any (z : Int) (n : Nat) (y : Int) (m : Nat) (w : World) (hn : n < 2 ^ 240) (hm : m < 2 ^ 240) :
    Calls Tryd.prog 29 #[.agg (L.lv z n), .agg (L.lv y m)] w fun e w' => e = .returned (.int .i64 (L.cmp z n y m)) ∧ Below w.heap.size w w' := by
  have HA := Lib.hid ((LabAt.new w z n).alloc (.cells (L.lv y m) 39))
  have HB : Hid (LabAt ((w.alloc (.cells (L.lv z n) 39)).alloc (.cells (L.lv y m) 39)) (w.heap.size + 1) y m) := Lib.hid (by have := LabAt.new (w.alloc (.cells (L.lv z n) 39)) y m; simpa using this)
  have hb0 : Below w.heap.size w ((w.alloc (.cells (L.lv z n) 39)).alloc (.cells (L.lv y m) 39)) := ((Below.refl _ w).alloc (Nat.le_refl _) _).alloc (by simp) _
  have h1 := HA.out.level
  have h2 := HB.out.level
  obtain ⟨R, hR⟩ : ∃ R, L.cmp z n y m = R := ⟨_, rfl⟩
  have HR := Lib.hid hR
  rw [hR]
  clear hR
  by_cases hzy : z = y
  · have G : Hid (R = C.cmpN n m) := Lib.hid (by rw [← HR.out]; unfold L.cmp; rw [if_pos hzy])
    have HQ := Lib.hid (fun w' ha hb => BCmp_any w' w.heap.size (w.heap.size + 1) n m z y hn hm ha hb)
    generalize C.cmpN n m = q at *
    subst hzy
    go_enter Tryd.func29, Tryd.ntmps29
    go_wp2
    generalize hW0 : (w.alloc (.cells (L.lv z n) 39)).alloc (.cells (L.lv z m) 39) = W0 at *
    clear hW0 h1 h2
    refine region_gen (VG W0.heap.size [.val (.pointer (some ⟨w.heap.size, 1, none⟩)), .val (.slice (some ⟨w.heap.size, 1, none⟩) 30 30), .val (.pointer (some ⟨(w.heap.size + 1), 1, none⟩)), .val (.slice (some ⟨(w.heap.size + 1), 1, none⟩) 30 30), .val (.int .i64 q), .val (.int .i64 q)]) (BS W0) (by kernel_rfl) (by kernel_rfl) (Below.refl _ _).drew ⟨?_, ?_, ?_, ?_, ?_, ?_, trivial⟩ ?_
    · go_light; intro listed a' w' hs hS hun hdep
      have e2 : a'.eval (.tmp 2) = .pointer (some ⟨w.heap.size, 0, none⟩) := (hs.out 2 (by kernel_rfl)).trans (rfl)
      refine g_val (.pointer (some ⟨w.heap.size, 1, none⟩)) hS rfl ?_ rfl
      have hcn := BigFrame.eval_const a'
      have hfn := BigFrame.eval_func a'
      clear hs hdep
      generalize a'.eval = ev at *
      go_simp
    · go_light; intro listed a' w' hs hS hun hdep
      have e15 : a'.eval (.tmp 15) = .pointer (some ⟨w.heap.size, 1, none⟩) := hs.eval 0 _ 15 rfl (hdep ⟨0, .data⟩ (by simp) rfl) rfl
      refine g_val (.slice (some ⟨w.heap.size, 1, none⟩) 30 30) hS rfl ?_ rfl
      have hcn := BigFrame.eval_const a'
      have hfn := BigFrame.eval_func a'
      clear hs hdep
      generalize a'.eval = ev at *
      go_simp
    · go_light; intro listed a' w' hs hS hun hdep
      have e3 : a'.eval (.tmp 3) = .pointer (some ⟨(w.heap.size + 1), 0, none⟩) := (hs.out 3 (by kernel_rfl)).trans (rfl)
      refine g_val (.pointer (some ⟨(w.heap.size + 1), 1, none⟩)) hS rfl ?_ rfl
      have hcn := BigFrame.eval_const a'
      have hfn := BigFrame.eval_func a'
      clear hs hdep
      generalize a'.eval = ev at *
      go_simp
    · go_light; intro listed a' w' hs hS hun hdep
      have e17 : a'.eval (.tmp 17) = .pointer (some ⟨(w.heap.size + 1), 1, none⟩) := hs.eval 2 _ 17 rfl (hdep ⟨2, .data⟩ (by simp) rfl) rfl
      refine g_val (.slice (some ⟨(w.heap.size + 1), 1, none⟩) 30 30) hS rfl ?_ rfl
      have hcn := BigFrame.eval_const a'
      have hfn := BigFrame.eval_func a'
      clear hs hdep
      generalize a'.eval = ev at *
      go_simp
    · go_light; intro listed a' w' hs hS hun hdep
      have e16 : a'.eval (.tmp 16) = .slice (some ⟨w.heap.size, 1, none⟩) 30 30 := hs.eval 1 _ 16 rfl (hdep ⟨1, .data⟩ (by simp) rfl) rfl
      have e18 : a'.eval (.tmp 18) = .slice (some ⟨(w.heap.size + 1), 1, none⟩) 30 30 := hs.eval 3 _ 18 rfl (hdep ⟨3, .data⟩ (by simp) rfl) rfl
      refine g_call 58 #[.slice (some ⟨w.heap.size, 1, none⟩) 30 30, .slice (some ⟨(w.heap.size + 1), 1, none⟩) 30 30] hS rfl ?_ ?_
      · have hcn := BigFrame.eval_const a'; have hfn := BigFrame.eval_func a'; clear hs hdep; generalize a'.eval = ev at *; go_simp
      · exact c_val (HQ.out w' (HA.out.below hS HA.out.lt) (HB.out.below hS HB.out.lt)) rfl
    · go_light; intro listed a' w' hs hS hun hdep
      have e19 : a'.eval (.tmp 19) = .int .i64 q := hs.eval 4 _ 19 rfl (hdep ⟨4, .data⟩ (by simp) rfl) rfl
      refine g_val (.int .i64 q) hS rfl ?_ rfl
      have hcn := BigFrame.eval_const a'
      have hfn := BigFrame.eval_func a'
      clear hs hdep
      generalize a'.eval = ev at *
      go_simp
    · intro vs w3 hlen hV listed hall hS
      obtain ⟨v0, v1, v2, v3, v4, v5, rfl⟩ := vs_6 vs (hlen.trans rfl)
      have q0 : v0 = .pointer (some ⟨w.heap.size, 1, none⟩) := hV 0 _ rfl
      have q1 : v1 = .slice (some ⟨w.heap.size, 1, none⟩) 30 30 := hV 1 _ rfl
      have q2 : v2 = .pointer (some ⟨(w.heap.size + 1), 1, none⟩) := hV 2 _ rfl
      have q3 : v3 = .slice (some ⟨(w.heap.size + 1), 1, none⟩) 30 30 := hV 3 _ rfl
      have q4 : v4 = .int .i64 q := hV 4 _ rfl
      have q5 : v5 = .int .i64 q := hV 5 _ rfl
      have hbel : Below W0.heap.size W0 w3 := hS
      subst q0 q1 q2 q3 q4 q5
      clear hV hS hall
      simp only [lays, Act.put, List.setIfInBounds_toArray, List.set_cons_zero, List.set_cons_succ]
      go_wp2
      go_ret
      exact ⟨by rw [G.out]; rfl, hb0.trans (hbel.mono hb0.size)⟩
  · have G : Hid (R = L.cmpZ z y) := Lib.hid (by rw [← HR.out]; unfold L.cmp; rw [if_neg hzy])
    have hzb : (z == y) = false := by rw [beq_eq_false_iff_ne]; exact hzy
    go_enter Tryd.func29, Tryd.ntmps29
    go_wp2_with fail
    refine (CmpI_any z y _).mono ?_
    rintro e w1 ⟨rfl, rfl⟩
    go_wp2
    go_ret
    exact ⟨by rw [G.out]; rfl, hb0⟩
set_option maxHeartbeats 4000000 in
theorem _root_.Go.Proofs.YtmaddfjgiflkbaaDoor.LIn_any (z : Int) (n : Nat) (zl : Int) (nl : Nat) (zh : Int) (nh : Nat) (w : World) (hn : n < 2 ^ 240) (hl : nl < 2 ^ 240) (hh : nh < 2 ^ 240) :
    Calls Tryd.prog 30 #[.agg (L.lv z n), .agg (L.lv zl nl), .agg (L.lv zh nh)] w fun e w' => e = .returned (.bool (L.dom z n zl nl && L.dom zh nh z n)) ∧ Below w.heap.size w w' := by
  have HA := Lib.hid (((LabAt.new w z n).alloc (.cells (L.lv zl nl) 39)).alloc (.cells (L.lv zh nh) 39))
  have HB : Hid (LabAt (((w.alloc (.cells (L.lv z n) 39)).alloc (.cells (L.lv zl nl) 39)).alloc (.cells (L.lv zh nh) 39)) (w.heap.size + 1) zl nl) := Lib.hid (by have := (LabAt.new (w.alloc (.cells (L.lv z n) 39)) zl nl).alloc (.cells (L.lv zh nh) 39); simpa using this)
  have HC : Hid (LabAt (((w.alloc (.cells (L.lv z n) 39)).alloc (.cells (L.lv zl nl) 39)).alloc (.cells (L.lv zh nh) 39)) (w.heap.size + 1 + 1) zh nh) := Lib.hid (by have := LabAt.new ((w.alloc (.cells (L.lv z n) 39)).alloc (.cells (L.lv zl nl) 39)) zh nh; simpa using this)
  have hb0 : Below w.heap.size w (((w.alloc (.cells (L.lv z n) 39)).alloc (.cells (L.lv zl nl) 39)).alloc (.cells (L.lv zh nh) 39)) := (((Below.refl _ w).alloc (Nat.le_refl _) _).alloc (by simp) _).alloc (by simp; omega) _
  have H1 := Lib.hid (fun w => Dom_any z n zl nl w hn hl)
  have H2 := Lib.hid (fun w => Dom_any zh nh z n w hh hn)
  generalize L.dom z n zl nl = d1 at *
  generalize L.dom zh nh z n = d2 at *
  go_enter Tryd.func30, Tryd.ntmps30
  go_wp2_with (first | (refine load_lab rfl rfl rfl HA.out ?_) | (refine load_lab rfl rfl rfl HB.out ?_))
  refine (H1.out _).mono ?_
  rintro e w1 ⟨rfl, hb1⟩
  have HA1 := Lib.hid (HA.out.below hb1 HA.out.lt)
  have HC1 := Lib.hid (HC.out.below hb1 HC.out.lt)
  have hbw1 := hb0.trans (hb1.mono hb0.size)
  clear HA HB HC hb0 hb1 H1
  cases d1
  · go_wp2
    go_ret
    exact ⟨rfl, hbw1⟩
  · go_wp2_with (first | (refine load_lab rfl rfl rfl HA1.out ?_) | (refine load_lab rfl rfl rfl HC1.out ?_))
    refine (H2.out _).mono ?_
    rintro e w2 ⟨rfl, hb2⟩
    go_wp2
    go_ret
    exact ⟨rfl, hbw1.trans (hb2.mono hbw1.size)⟩
end LbCmp
#print axioms LCmp_any
#print axioms LIn_any
end Go.Proofs.YtmaddfjgiflkbaaDoor
