/- Which domains are right, and where the first of a number stands; the document's answer. -/
import Derived.Test.YtdipoaekdafbeaaDoRight
namespace Go.Proofs.Ytdipoaekdafbeaa
open Go.RowKit Go.Maps
set_option maxRecDepth 100000
set_option linter.unusedVariables false
open D
namespace D
def d0 : Dm := ⟨0, none, 0, [], none, 0, []⟩
def dm (l : List Dm) (i : Nat) : Dm := l.getD i d0
theorem dm_get (l : List Dm) (i : Nat) (h : i < l.length) : dm l i = l[i] := by unfold dm; rw [List.getD_eq_getElem?_getD, List.getElem?_eq_getElem h]; rfl
/-- The place of the first one; -1 without one. -/
def firstI (p : Dm → Bool) (l : List Dm) : Int := match l.findIdx? p with | some i => (i : Int) | none => -1
theorem firstI_hit (p : Dm → Bool) (l : List Dm) (k : Nat) (h : k < l.length) (hn : ∀ j, j < k → p (dm l j) = false) (hy : p (dm l k) = true) : firstI p l = k := by
  unfold firstI
  rw [show l.findIdx? p = some k from List.findIdx?_eq_some_iff_getElem.2 ⟨h, by rw [← dm_get l k h]; exact hy, fun j hj => by rw [← dm_get l j (by omega)]; simp [hn j hj]⟩]
theorem firstI_miss (p : Dm → Bool) (l : List Dm) (hn : ∀ j, j < l.length → p (dm l j) = false) : firstI p l = -1 := by
  unfold firstI
  rw [show l.findIdx? p = none from List.findIdx?_eq_none_iff.2 fun x hx => by
    obtain ⟨i, hi, rfl⟩ := List.getElem_of_mem hx
    rw [← dm_get l i hi]
    exact hn i hi]
def allR (l : List Dm) : Bool := l.all Dm.right
theorem firstI_ge (l : List Dm) : (!decide (0 ≤ firstI (fun d => !d.right) l)) = allR l := by
  unfold firstI allR
  cases h : l.findIdx? fun d => !d.right with
  | none =>
    rw [List.findIdx?_eq_none_iff] at h
    rw [List.all_eq_true.2 fun x hx => by simpa using h x hx]
    rfl
  | some i =>
    obtain ⟨hi, hy, _⟩ := List.findIdx?_eq_some_iff_getElem.1 h
    rw [List.all_eq_false.2 ⟨l[i], List.getElem_mem hi, by simpa using hy⟩]
    simp
end D

/-- What is known of a domain's pairs. -/
structure DOk (w : World) (d : Dm) : Prop where
  lr : PRow w d.la d.lv
  cr : PRow w d.ca d.ct
  ln : d.lv.length ≤ 1000
  cn : d.ct.length ≤ 1000
  lw : PWf d.lv
  cw : PWf d.ct
theorem DOk.below {w w' : World} {d : Dm} (h : DOk w d) (hb : Below w.heap.size w w') : DOk w' d := ⟨h.lr.below hb, h.cr.below hb, h.ln, h.cn, h.lw, h.cw⟩

def DRow (w : World) (a : Option Addr) (l : List Dm) : Prop := 0 < l.length → ∃ b off, a = some ⟨b, off, none⟩ ∧ b < w.heap.size ∧ ∀ k, k < l.length →
  w.cell? ⟨b, off + k * 3, none⟩ = some (.int .u32 (dm l k).num) ∧ w.cell? ⟨b, off + k * 3 + 1, none⟩ = some (.slice (dm l k).la (dm l k).lv.length (dm l k).lc) ∧ w.cell? ⟨b, off + k * 3 + 2, none⟩ = some (.slice (dm l k).ca (dm l k).ct.length (dm l k).cc)
theorem DRow.then {W wr : World} {a : Option Addr} {l : List Dm} (h : DRow W a l) (hb : Below W.heap.size W wr) (k : Nat) (hk : k < l.length) : ∃ b off, a = some ⟨b, off, none⟩ ∧ b < W.heap.size ∧
    wr.cell? ⟨b, off + k * 3, none⟩ = some (.int .u32 (dm l k).num) ∧ wr.cell? ⟨b, off + k * 3 + 1, none⟩ = some (.slice (dm l k).la (dm l k).lv.length (dm l k).lc) ∧ wr.cell? ⟨b, off + k * 3 + 2, none⟩ = some (.slice (dm l k).ca (dm l k).ct.length (dm l k).cc) := by
  obtain ⟨b, off, ha, hlt, hc⟩ := h (by omega)
  obtain ⟨c0, c1, c2⟩ := hc k hk
  exact ⟨b, off, ha, hlt, (hb.cell (p := ⟨b, off + k * 3, none⟩) hlt).trans c0, (hb.cell (p := ⟨b, off + k * 3 + 1, none⟩) hlt).trans c1, (hb.cell (p := ⟨b, off + k * 3 + 2, none⟩) hlt).trans c2⟩
theorem DRow.below {w w' : World} {a : Option Addr} {l : List Dm} (h : DRow w a l) (hb : Below w.heap.size w w') : DRow w' a l := fun h0 => by
  obtain ⟨b, off, ha, hlt, hc⟩ := h h0
  exact ⟨b, off, ha, Nat.lt_of_lt_of_le hlt hb.size, fun k hk => ⟨(hb.cell (p := ⟨b, off + k * 3, none⟩) hlt).trans (hc k hk).1, (hb.cell (p := ⟨b, off + k * 3 + 1, none⟩) hlt).trans (hc k hk).2.1, (hb.cell (p := ⟨b, off + k * 3 + 2, none⟩) hlt).trans (hc k hk).2.2⟩⟩
theorem DRow.one {w : World} {g : Nat} {d : Dm} {T : TypeId} (h : w.heap[g]? = some (.cells d.v T (0, 0))) : DRow w (some ⟨g, 0, Option.none⟩) [d] := fun _ => by
  refine ⟨g, 0, rfl, heap_lt h, fun k hk => ?_⟩
  obtain rfl : k = 0 := by simp at hk; omega
  exact ⟨(cell_of_row w g _ _ _ (0, 0) h).trans rfl, (cell_of_row w g _ _ _ (0, 0) h).trans rfl, (cell_of_row w g _ _ _ (0, 0) h).trans rfl⟩


set_option maxHeartbeats 2000000 in
theorem one_not_any (d : Dm) (w : World) (h : DOk w d) : Calls Try.prog 39 #[.agg d.v] w fun e w' => e = .returned (.bool (!d.right)) ∧ Below w.heap.size w w' := by
  have H := Lib.hid h
  have hb : Below w.heap.size w (w.alloc (.cells d.v 25)) := (Below.refl _ w).alloc (Nat.le_refl _) _
  clear h
  obtain ⟨num, la, lc, lv, ca, cc, ct⟩ := d
  obtain ⟨p, hp⟩ : ∃ p, decide (POk 255 lv) = p := ⟨_, rfl⟩
  obtain ⟨q, hq⟩ : ∃ q, decide (POk 239 ct) = q := ⟨_, rfl⟩
  have HR : Hid (Dm.right ⟨num, la, lc, lv, ca, cc, ct⟩ = (p && q)) := Lib.hid (by unfold Dm.right; rw [hp, hq])
  have HP := Lib.hid (fun w' (hb : Below w.heap.size w w') => arePairs_any 255 la lc lv w' (H.out.lr.below hb) H.out.ln H.out.lw)
  have HQ := Lib.hid (fun w' (hb : Below w.heap.size w w') => arePairs_any 239 ca cc ct w' (H.out.cr.below hb) H.out.cn H.out.cw)
  rw [hp] at HP
  rw [hq] at HQ
  simp only [Dm.v] at *
  clear hp hq
  go_enter Try.func39, Try.ntmps39
  go_wp2_with fail
  refine (HP.out _ hb).mono ?_
  rintro e w2 ⟨rfl, hb2⟩
  have hbw := hb.trans (hb2.mono hb.size)
  have k0 := (hb2.cell (p := ⟨w.heap.size, 0, none⟩) (by simp)).trans (by simp : (w.alloc (.cells #[.int .u32 num, .slice la lv.length lc, .slice ca ct.length cc] 25)).cell? ⟨w.heap.size, 0, none⟩ = some (.int .u32 num))
  have k2 : w2.cell? ⟨w.heap.size, 2, none⟩ = some (.slice ca ct.length cc) := (hb2.cell (p := ⟨w.heap.size, 2, none⟩) (by simp)).trans (by simp)
  clear hb2 hb k0
  cases p
  · go_wp2
    go_ret
    exact ⟨by rw [HR.out]; rfl, hbw⟩
  · go_wp2_with fail
    refine (HQ.out _ hbw).mono ?_
    rintro e w3 ⟨rfl, hb3⟩
    have hbw3 := hbw.trans (hb3.mono hbw.size)
    clear hb3
    go_wp2
    go_ret
    exact ⟨by rw [HR.out]; rfl, hbw3⟩

set_option maxHeartbeats 2000000 in
theorem rright_any (d : Dm) (w : World) (h : DOk w d) : Calls Try.prog 17 #[.agg d.v] w fun e w' => e = .returned (.bool (d.right)) ∧ Below w.heap.size w w' := by
  have H := Lib.hid h
  have hb : Below w.heap.size w (w.alloc (.cells d.v 25)) := (Below.refl _ w).alloc (Nat.le_refl _) _
  clear h
  obtain ⟨num, la, lc, lv, ca, cc, ct⟩ := d
  obtain ⟨p, hp⟩ : ∃ p, decide (POk 255 lv) = p := ⟨_, rfl⟩
  obtain ⟨q, hq⟩ : ∃ q, decide (POk 239 ct) = q := ⟨_, rfl⟩
  have HR : Hid (Dm.right ⟨num, la, lc, lv, ca, cc, ct⟩ = (p && q)) := Lib.hid (by unfold Dm.right; rw [hp, hq])
  have HP := Lib.hid (fun w' (hb : Below w.heap.size w w') => rpairs_any 255 la lc lv w' (H.out.lr.below hb) H.out.ln)
  have HQ := Lib.hid (fun w' (hb : Below w.heap.size w w') => rpairs_any 239 ca cc ct w' (H.out.cr.below hb) H.out.cn)
  rw [hp] at HP
  rw [hq] at HQ
  simp only [Dm.v] at *
  clear hp hq
  go_enter Try.func17, Try.ntmps17
  go_wp2_with fail
  refine (HP.out _ hb).mono ?_
  rintro e w2 ⟨rfl, hb2⟩
  have hbw := hb.trans (hb2.mono hb.size)
  have k0 := (hb2.cell (p := ⟨w.heap.size, 0, none⟩) (by simp)).trans (by simp : (w.alloc (.cells #[.int .u32 num, .slice la lv.length lc, .slice ca ct.length cc] 25)).cell? ⟨w.heap.size, 0, none⟩ = some (.int .u32 num))
  have k2 : w2.cell? ⟨w.heap.size, 2, none⟩ = some (.slice ca ct.length cc) := (hb2.cell (p := ⟨w.heap.size, 2, none⟩) (by simp)).trans (by simp)
  clear hb2 hb k0
  cases p
  · go_wp2
    go_ret
    exact ⟨by rw [HR.out]; rfl, hbw⟩
  · go_wp2_with fail
    refine (HQ.out _ hbw).mono ?_
    rintro e w3 ⟨rfl, hb3⟩
    have hbw3 := hbw.trans (hb3.mono hbw.size)
    clear hb3
    go_wp2
    go_ret
    exact ⟨by rw [HR.out]; rfl, hbw3⟩

set_option maxHeartbeats 2000000 in
theorem great_any (d : Dm) (w : World) : Calls Try.prog 10 #[.agg d.v] w fun e w' => e = .returned (.bool (decide (300 < d.lv.length) || decide (300 < d.ct.length))) ∧ Below w.heap.size w w' := by
  have hb : Below w.heap.size w (w.alloc (.cells d.v 25)) := (Below.refl _ w).alloc (Nat.le_refl _) _
  obtain ⟨num, la, lc, lv, ca, cc, ct⟩ := d
  simp only [Dm.v] at *
  by_cases h1 : 300 < lv.length
  · have h1' : (300 : Int) < (lv.length : Int) := by omega
    go_enter Try.func10, Try.ntmps10
    go_wp2
    go_ret
    exact ⟨by rw [decide_eq_true h1]; rfl, hb⟩
  · have h1' : ¬ (300 : Int) < (lv.length : Int) := by omega
    have Hd : Hid (decide ((300 : Int) < (ct.length : Int)) = decide (300 < ct.length)) := Lib.hid (by rw [decide_eq_decide]; omega)
    go_enter Try.func10, Try.ntmps10
    go_wp2
    go_ret
    exact ⟨by rw [← Hd.out]; rfl, hb⟩

set_option maxHeartbeats 2000000 in
theorem isnum_any (d : Dm) (x : Int) (g : Nat) (w : World) (hg : g < w.heap.size) (hx : w.cell? ⟨g, 0, none⟩ = some (.int .u32 x)) : Calls Try.prog 43 #[.agg d.v, .pointer (some ⟨g, 0, none⟩)] w fun e w' => e = .returned (.bool (decide (d.num = x))) ∧ Below w.heap.size w w' := by
  have hb : Below w.heap.size w (w.alloc (.cells d.v 25)) := (Below.refl _ w).alloc (Nat.le_refl _) _
  have hx' := (hb.cell (p := ⟨g, 0, none⟩) hg).trans hx
  obtain ⟨num, la, lc, lv, ca, cc, ct⟩ := d
  simp only [Dm.v] at *
  have Hd : Hid ((num == x) = decide (num = x)) := Lib.hid rfl
  clear hx
  go_enter Try.func43, Try.ntmps43
  go_wp2
  go_ret
  exact ⟨by rw [← Hd.out]; rfl, hb⟩

set_option maxHeartbeats 4000000 in
theorem indexR_any (a : Option Addr) (cap : Nat) (l : List Dm) (w : World) (h : DRow w a l) (hl : l.length ≤ 1000) (hd : ∀ k, k < l.length → DOk w (dm l k)) :
    Calls Try.prog 42 #[.slice a l.length cap, .func (.func 39) #[] #[]] w fun e w' => e = .returned (.int .i64 (firstI (fun d => !d.right) l)) ∧ Below w.heap.size w w' := by
  have Hrow := Lib.hid h
  have HD := Lib.hid hd
  clear h hd
  obtain ⟨R, hR⟩ : ∃ R, firstI (fun d => !d.right) l = R := ⟨_, rfl⟩
  have HR := Lib.hid hR
  rw [hR]
  clear hR
  go_enter Try.func42, Try.ntmps42
  go_wp2
  go_loopw [8] (fun i wr => ∃ k : Nat, k ≤ l.length ∧ i = .int .i64 k ∧ (∀ j, j < k → (fun d => !d.right) (dm l j) = false) ∧ Below w.heap.size w wr) (fun i _ => l.length - (intOf i).toNat)
  case atStart => exact ⟨0, Nat.zero_le _, rfl, fun j hj => absurd hj (by omega), Below.refl _ _⟩
  case round =>
    obtain ⟨k, hk, rfl, hno, hb⟩ := hrel
    have hbs := hb.size
    have Hno := Lib.hid hno
    clear hno
    by_cases hlt : k < l.length
    · obtain ⟨b, off, rfl, hbl, c0, c1, c2⟩ := Hrow.out.then hb k hlt
      have HC := Lib.hid (one_not_any (dm l k) wr ((HD.out k hlt).below hb))
      obtain ⟨t, ht⟩ : ∃ t, (fun d => !d.right) (dm l k) = t := ⟨_, rfl⟩
      have ht2 := ht
      simp only at ht2
      have hC := HC.out
      rw [ht2] at hC
      have HC2 := Lib.hid hC
      have HY : Hid (t = true → R = (k : Int)) := Lib.hid (fun h => by rw [← HR.out]; exact firstI_hit _ l k hlt Hno.out (ht.trans h))
      have HN : Hid (t = false → ∀ j, j < k + 1 → (fun d => !d.right) (dm l j) = false) := Lib.hid (fun h j hj => by
        rcases Nat.lt_or_ge j k with h1 | h1
        · exact Hno.out j h1
        · obtain rfl : j = k := by omega
          exact ht.trans h)
      have hlt' : (k : Int) < (l.length : Int) := by omega
      clear HC hC ht ht2
      unfold Dm.v at HC2
      generalize dm l k = d at *
      go_wp2_with fail
      refine HC2.out.mono ?_
      rintro e w2 ⟨rfl, hb2⟩
      have hbw := hb.trans (hb2.mono hbs)
      clear hb2 HC2 c0 c1 c2 hb
      cases t
      · have G := Lib.hid (HN.out rfl)
        go_wp2
        go_roundw
        case rel => exact ⟨k + 1, by omega, by go_num, G.out, hbw⟩
        case measure => simp [intOf]; omega
      · have G := Lib.hid (HY.out rfl)
        go_wp2
        go_ret
        exact ⟨by rw [G.out]; rfl, hbw⟩
    · obtain rfl : k = l.length := by omega
      have hlt' : ¬ (l.length : Int) < (l.length : Int) := by omega
      have G : Hid (R = -1) := Lib.hid (by rw [← HR.out]; exact firstI_miss _ l Hno.out)
      go_wp2
      go_ret
      exact ⟨by rw [G.out]; rfl, hb⟩

set_option maxHeartbeats 4000000 in
theorem indexN_any (a : Option Addr) (cap : Nat) (l : List Dm) (w : World) (h : DRow w a l) (hl : l.length ≤ 1000) (x : Int) (g : Nat) (hg : g < w.heap.size) (hd : w.cell? ⟨g, 0, none⟩ = some (.int .u32 x)) :
    Calls Try.prog 42 #[.slice a l.length cap, .func (.func 43) #[] #[.pointer (some ⟨g, 0, none⟩)]] w fun e w' => e = .returned (.int .i64 (firstI (fun d => decide (d.num = x)) l)) ∧ Below w.heap.size w w' := by
  have Hrow := Lib.hid h
  have HD := Lib.hid hd
  clear h hd
  obtain ⟨R, hR⟩ : ∃ R, firstI (fun d => decide (d.num = x)) l = R := ⟨_, rfl⟩
  have HR := Lib.hid hR
  rw [hR]
  clear hR
  go_enter Try.func42, Try.ntmps42
  go_wp2
  go_loopw [8] (fun i wr => ∃ k : Nat, k ≤ l.length ∧ i = .int .i64 k ∧ (∀ j, j < k → (fun d => decide (d.num = x)) (dm l j) = false) ∧ Below w.heap.size w wr) (fun i _ => l.length - (intOf i).toNat)
  case atStart => exact ⟨0, Nat.zero_le _, rfl, fun j hj => absurd hj (by omega), Below.refl _ _⟩
  case round =>
    obtain ⟨k, hk, rfl, hno, hb⟩ := hrel
    have hbs := hb.size
    have Hno := Lib.hid hno
    clear hno
    by_cases hlt : k < l.length
    · obtain ⟨b, off, rfl, hbl, c0, c1, c2⟩ := Hrow.out.then hb k hlt
      have HC := Lib.hid (isnum_any (dm l k) x g wr (Nat.lt_of_lt_of_le hg hb.size) ((hb.cell (p := ⟨g, 0, none⟩) hg).trans HD.out))
      obtain ⟨t, ht⟩ : ∃ t, (fun d => decide (d.num = x)) (dm l k) = t := ⟨_, rfl⟩
      have ht2 := ht
      simp only at ht2
      have hC := HC.out
      rw [ht2] at hC
      have HC2 := Lib.hid hC
      have HY : Hid (t = true → R = (k : Int)) := Lib.hid (fun h => by rw [← HR.out]; exact firstI_hit _ l k hlt Hno.out (ht.trans h))
      have HN : Hid (t = false → ∀ j, j < k + 1 → (fun d => decide (d.num = x)) (dm l j) = false) := Lib.hid (fun h j hj => by
        rcases Nat.lt_or_ge j k with h1 | h1
        · exact Hno.out j h1
        · obtain rfl : j = k := by omega
          exact ht.trans h)
      have hlt' : (k : Int) < (l.length : Int) := by omega
      clear HC hC ht ht2
      unfold Dm.v at HC2
      generalize dm l k = d at *
      go_wp2_with fail
      refine HC2.out.mono ?_
      rintro e w2 ⟨rfl, hb2⟩
      have hbw := hb.trans (hb2.mono hbs)
      clear hb2 HC2 c0 c1 c2 hb
      cases t
      · have G := Lib.hid (HN.out rfl)
        go_wp2
        go_roundw
        case rel => exact ⟨k + 1, by omega, by go_num, G.out, hbw⟩
        case measure => simp [intOf]; omega
      · have G := Lib.hid (HY.out rfl)
        go_wp2
        go_ret
        exact ⟨by rw [G.out]; rfl, hbw⟩
    · obtain rfl : k = l.length := by omega
      have hlt' : ¬ (l.length : Int) < (l.length : Int) := by omega
      have G : Hid (R = -1) := Lib.hid (by rw [← HR.out]; exact firstI_miss _ l Hno.out)
      go_wp2
      go_ret
      exact ⟨by rw [G.out]; rfl, hb⟩

set_option maxHeartbeats 2000000 in
theorem contains_any (a : Option Addr) (cap : Nat) (l : List Dm) (w : World) (h : DRow w a l) (hl : l.length ≤ 1000) (hd : ∀ k, k < l.length → DOk w (dm l k)) :
    Calls Try.prog 38 #[.slice a l.length cap, .func (.func 39) #[] #[]] w fun e w' => e = .returned (.bool (!allR l)) ∧ Below w.heap.size w w' := by
  have HR := Lib.hid (firstI_ge l)
  have HI := Lib.hid (indexR_any a cap l w h hl hd)
  generalize firstI (fun d => !d.right) l = R at *
  generalize allR l = T at *
  clear h hd
  go_enter Try.func38, Try.ntmps38
  go_wp2_with fail
  refine HI.out.mono ?_
  rintro e w2 ⟨rfl, hb2⟩
  go_wp2
  go_ret
  exact ⟨by rw [← HR.out, Bool.not_not]; rfl, hb2⟩

set_option maxHeartbeats 2000000 in
theorem DRight_any (a : Option Addr) (cap : Nat) (l : List Dm) (w : World) (h : DRow w a l) (hl : l.length ≤ 1000) (hd : ∀ k, k < l.length → DOk w (dm l k)) :
    Calls Try.prog 16 #[.slice a l.length cap] w fun e w' => e = .returned (.bool (allR l)) ∧ Below w.heap.size w w' := by
  have HI := Lib.hid (contains_any a cap l w h hl hd)
  generalize allR l = T at *
  clear h hd
  go_enter Try.func16, Try.ntmps16
  go_wp2_with fail
  refine HI.out.mono ?_
  rintro e w2 ⟨rfl, hb2⟩
  go_wp2
  go_ret
  exact ⟨by cases T <;> rfl, hb2⟩

set_option maxHeartbeats 2000000 in
theorem DFind_any (a : Option Addr) (cap : Nat) (l : List Dm) (x : Int) (w : World) (h : DRow w a l) (hl : l.length ≤ 1000) :
    Calls Try.prog 18 #[.slice a l.length cap, .int .u32 x] w fun e w' => e = .returned (.int .i64 (firstI (fun d => decide (d.num = x)) l)) ∧ Below w.heap.size w w' := by
  have hb : Below w.heap.size w (w.alloc (.cells #[.int .u32 x] 22)) := (Below.refl _ w).alloc (Nat.le_refl _) _
  have HI := Lib.hid (indexN_any a cap l (w.alloc (.cells #[.int .u32 x] 22)) (h.below hb) hl x w.heap.size (by simp) (by simp))
  generalize firstI (fun d => decide (d.num = x)) l = R at *
  clear h
  go_enter Try.func18, Try.ntmps18
  go_wp2_with fail
  refine HI.out.mono ?_
  rintro e w2 ⟨rfl, hb2⟩
  have hbw := hb.trans (hb2.mono hb.size)
  go_wp2
  go_ret
  exact ⟨rfl, hbw⟩
#print axioms rright_any
#print axioms great_any
#print axioms DRight_any
#print axioms DFind_any
end Go.Proofs.Ytdipoaekdafbeaa
