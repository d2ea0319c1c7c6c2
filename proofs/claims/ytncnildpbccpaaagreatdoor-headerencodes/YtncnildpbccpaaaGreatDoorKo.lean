/- The walk of a packet that isn't right; what a right packet's bytes are read as. -/
import Derived.Test.YtncnildpbccpaaaGreatDoorKh
import Derived.Test.YtncnildpbccpaaaGreatDoorKn
set_option maxRecDepth 100000
namespace Go.Proofs.YtncnildpbccpaaaGreatDoor
open Go.RowKit
set_option linter.unusedVariables false

set_option maxHeartbeats 1000000 in
theorem henc_bad (tos id : Int) (df mf : Bool) (off ttl proto src dst : Int) (a : Option Addr) (cap : Nat) (l : List Opt) (d : ByteArray) (w : World) (h : OptRow w a l) (hl : l.length ≤ 60) (hd : ∀ o ∈ l, o.data.size ≤ 100) (hds : d.size ≤ 70000)
    (hr : H.right tos id off ttl proto l d.size = false) :
    Calls Tryz.prog 6 #[pk tos id df mf off ttl proto src dst (.slice a l.length cap) d] w fun e w' => e = .returned (.tuple #[.string ⟨#[]⟩, .int .i64 1]) ∧ Below w.heap.size w w' := by
  have HR := Lib.hid (fun w' (h' : OptRow w' a l) => hright_any tos id df mf off ttl proto src dst a cap l d w' h' hl hd hds)
  rw [hr] at HR
  have hb0 : Below w.heap.size w (w.alloc (pkO tos id df mf off ttl proto src dst (.slice a l.length cap) d)) := (Below.refl _ w).alloc (Nat.le_refl _) _
  go_enter Tryz.func6, Tryz.ntmps6
  go_wp2_with fail
  refine (HR.out _ (h.carry hb0)).mono ?_
  rintro e w1 ⟨rfl, hb1⟩
  have hb1w := hb0.trans (hb1.mono hb0.size)
  clear HR hb0 hb1
  go_wp2
  go_ret2
  exact ⟨rfl, hb1w⟩

namespace H
/-- The bytes, one by one. -/
def lst (W tos Z id L ttl proto c src dst : Nat) (t : List UInt8) : List UInt8 :=
  UInt8.ofNat W :: UInt8.ofNat tos :: UInt8.ofNat (Z / 256) :: UInt8.ofNat Z :: UInt8.ofNat (id / 256) :: UInt8.ofNat id :: UInt8.ofNat (L / 256) :: UInt8.ofNat L :: UInt8.ofNat ttl :: UInt8.ofNat proto ::
  UInt8.ofNat (c / 256) :: UInt8.ofNat (c % 256) :: UInt8.ofNat (src / 16777216) :: UInt8.ofNat (src / 65536) :: UInt8.ofNat (src / 256) :: UInt8.ofNat src :: UInt8.ofNat (dst / 16777216) :: UInt8.ofNat (dst / 65536) :: UInt8.ofNat (dst / 256) :: UInt8.ofNat dst :: t

theorem lst_length (W tos Z id L ttl proto c src dst : Nat) (t : List UInt8) : (lst W tos Z id L ttl proto c src dst t).length = 20 + t.length := by
  simp only [lst, List.length_cons]; omega

theorem of256 (n : Nat) (h : n < 256) : (UInt8.ofNat n).toNat = n := by rw [UInt8.toNat_ofNat']; omega
theorem of65536 (n : Nat) (h : n < 65536) : 256 * (UInt8.ofNat (n / 256)).toNat + (UInt8.ofNat n).toNat = n := by rw [UInt8.toNat_ofNat', UInt8.toNat_ofNat']; omega
theorem ofWord (n : Nat) (h : n < 4294967296) : (256 * (UInt8.ofNat (n / 16777216)).toNat + (UInt8.ofNat (n / 65536)).toNat) * 65536 + (256 * (UInt8.ofNat (n / 256)).toNat + (UInt8.ofNat n).toNat) = n := by
  rw [UInt8.toNat_ofNat', UInt8.toNat_ofNat', UInt8.toNat_ofNat', UInt8.toNat_ofNat']; omega

theorem head_lst (tos id : Nat) (df mf : Bool) (off ttl proto src dst : Nat) (l : List Opt) (n : Nat) :
    head tos id df mf off ttl proto src dst l n = lst (64 + (20 + O.size l) / 4) tos (20 + O.size l + n) id (place off df mf) ttl proto 0 src dst (O.enc l) := rfl

theorem enc_lst (tos id : Nat) (df mf : Bool) (off ttl proto src dst : Nat) (l : List Opt) (d : ByteArray) :
    (enc tos id df mf off ttl proto src dst l d).data.toList = lst (64 + (20 + O.size l) / 4) tos (20 + O.size l + d.size) id (place off df mf) ttl proto (csum (ba (head tos id df mf off ttl proto src dst l d.size)) 10) src dst (O.enc l ++ d.data.toList) := by
  unfold enc
  generalize csum (ba (head tos id df mf off ttl proto src dst l d.size)) 10 = c
  rw [ByteArray.data_append, Array.toList_append, swap_list, head_lst]
  rfl

/-- What is read of the bytes. -/
theorem lst_g0 (W tos Z id L ttl proto c src dst : Nat) (t : List UInt8) (h : W < 256) : g (lst W tos Z id L ttl proto c src dst t) 0 = W := of256 W h
theorem lst_g1 (W tos Z id L ttl proto c src dst : Nat) (t : List UInt8) (h : tos < 256) : g (lst W tos Z id L ttl proto c src dst t) 1 = tos := of256 tos h
theorem lst_sh2 (W tos Z id L ttl proto c src dst : Nat) (t : List UInt8) (h : Z < 65536) : sh (lst W tos Z id L ttl proto c src dst t) 2 = Z := of65536 Z h
theorem lst_sh4 (W tos Z id L ttl proto c src dst : Nat) (t : List UInt8) (h : id < 65536) : sh (lst W tos Z id L ttl proto c src dst t) 4 = id := of65536 id h
theorem lst_sh6 (W tos Z id L ttl proto c src dst : Nat) (t : List UInt8) (h : L < 65536) : sh (lst W tos Z id L ttl proto c src dst t) 6 = L := of65536 L h
theorem lst_g8 (W tos Z id L ttl proto c src dst : Nat) (t : List UInt8) (h : ttl < 256) : g (lst W tos Z id L ttl proto c src dst t) 8 = ttl := of256 ttl h
theorem lst_g9 (W tos Z id L ttl proto c src dst : Nat) (t : List UInt8) (h : proto < 256) : g (lst W tos Z id L ttl proto c src dst t) 9 = proto := of256 proto h
theorem lst_wd12 (W tos Z id L ttl proto c src dst : Nat) (t : List UInt8) (h : src < 4294967296) : wd (lst W tos Z id L ttl proto c src dst t) 12 = src := ofWord src h
theorem lst_wd16 (W tos Z id L ttl proto c src dst : Nat) (t : List UInt8) (h : dst < 4294967296) : wd (lst W tos Z id L ttl proto c src dst t) 16 = dst := ofWord dst h

theorem place_bits (off : Nat) (df mf : Bool) (h : off ≤ 65528) (h8 : off % 8 = 0) :
    (place off df mf / 16384 % 2 == 1) = df ∧ (place off df mf / 8192 % 2 == 1) = mf ∧ place off df mf % 8192 * 8 = off := by
  unfold place
  cases df <;> cases mf <;> simp <;> omega

/-- What a packet being right says of natural numbers. -/
structure Rt (tos id off ttl proto : Nat) (l : List Opt) (n : Nat) : Prop where
  hopts : l.all O.right = true
  hsize : O.size l ≤ 40
  htos : tos ≤ 255
  httl : ttl ≤ 255
  hproto : proto ≤ 255
  hid : id ≤ 65535
  hoff : off ≤ 65528
  hall : 20 + O.size l + n ≤ 65535
  hfar : off + n ≤ 65535
  hunit : off % 8 = 0

theorem right_nat (tos id off ttl proto : Nat) (l : List Opt) (n : Nat) (hn : n ≤ 70000) (h : right tos id off ttl proto l n = true) : Rt tos id off ttl proto l n := by
  unfold right at h
  simp only [Bool.and_eq_true, decide_eq_true_eq] at h
  obtain ⟨⟨⟨hA, hz⟩, hin⟩, hm⟩ := h
  obtain ⟨⟨_, i1⟩, ⟨_, i2⟩, ⟨_, i3⟩, ⟨_, i4⟩, ⟨_, i5⟩, ⟨_, i6⟩, ⟨_, i7⟩⟩ := hin
  rw [IntWalk.i64_in _ (by omega)] at i7
  exact ⟨hA, hz, by omega, by omega, by omega, by omega, by omega, by omega, by omega, by omega⟩

theorem right_int (tos id off ttl proto : Int) (l : List Opt) (n : Nat) (h : right tos id off ttl proto l n = true) : 0 ≤ tos ∧ 0 ≤ id ∧ 0 ≤ off ∧ 0 ≤ ttl ∧ 0 ≤ proto := by
  unfold right at h
  simp only [Bool.and_eq_true, decide_eq_true_eq] at h
  obtain ⟨⟨⟨hA, hz⟩, hin⟩, hm⟩ := h
  obtain ⟨⟨i1, _⟩, ⟨i2, _⟩, ⟨i3, _⟩, ⟨i4, _⟩, ⟨i5, _⟩, _⟩ := hin
  exact ⟨i1, i4, i5, i2, i3⟩

theorem enc_ok (tos id : Nat) (df mf : Bool) (off ttl proto src dst : Nat) (l : List Opt) (d : ByteArray) (hr : Rt tos id off ttl proto l d.size) (hsrc : src < 4294967296) (hdst : dst < 4294967296) :
    Ok (enc tos id df mf off ttl proto src dst l d).data.toList l ∧ pkt (enc tos id df mf off ttl proto src dst l d).data.toList l = ⟨tos, id, df, mf, off, ttl, proto, src, dst, l, d⟩ ∧ hl (enc tos id df mf off ttl proto src dst l d).data.toList = 20 + O.size l := by
  obtain ⟨b1, b2, b3⟩ := place_bits off df mf hr.hoff hr.hunit
  have hL := place_lt off df mf hr.hoff
  have hz4 := O.size_mod l
  have hgood := put_is_good (ba (head tos id df mf off ttl proto src dst l d.size)) 10 (by decide) (by rw [ba_size, head_lst, lst_length]; omega)
  have hsl := swap_list (ba (head tos id df mf off ttl proto src dst l d.size)) 10 (csum (ba (head tos id df mf off ttl proto src dst l d.size)) 10)
  rw [enc_lst]
  generalize csum (ba (head tos id df mf off ttl proto src dst l d.size)) 10 = c at *
  have htake : ba ((lst (64 + (20 + O.size l) / 4) tos (20 + O.size l + d.size) id (place off df mf) ttl proto c src dst (O.enc l ++ d.data.toList)).take (20 + O.size l)) = swap (ba (head tos id df mf off ttl proto src dst l d.size)) 10 c := by
    apply bytes_ext
    rw [hsl, head_lst]
    have e1 : lst (64 + (20 + O.size l) / 4) tos (20 + O.size l + d.size) id (place off df mf) ttl proto c src dst (O.enc l ++ d.data.toList) = lst (64 + (20 + O.size l) / 4) tos (20 + O.size l + d.size) id (place off df mf) ttl proto c src dst (O.enc l) ++ d.data.toList := rfl
    rw [e1, List.take_left' (by rw [lst_length, O.enc_length])]
    rfl
  have r1 := hr.hsize
  have r2 := hr.htos
  have r3 := hr.httl
  have r4 := hr.hproto
  have r5 := hr.hid
  have r6 := hr.hoff
  have r7 := hr.hall
  have r8 := hr.hfar
  have hdl : d.data.toList.length = d.size := Array.length_toList
  generalize hs : lst (64 + (20 + O.size l) / 4) tos (20 + O.size l + d.size) id (place off df mf) ttl proto c src dst (O.enc l ++ d.data.toList) = s at *
  have g0 : g s 0 = 64 + (20 + O.size l) / 4 := by rw [← hs]; exact lst_g0 _ _ _ _ _ _ _ _ _ _ _ (by omega)
  have g1 : g s 1 = tos := by rw [← hs]; exact lst_g1 _ _ _ _ _ _ _ _ _ _ _ (by omega)
  have g2 : sh s 2 = 20 + O.size l + d.size := by rw [← hs]; exact lst_sh2 _ _ _ _ _ _ _ _ _ _ _ (by omega)
  have g4 : sh s 4 = id := by rw [← hs]; exact lst_sh4 _ _ _ _ _ _ _ _ _ _ _ (by omega)
  have g6 : sh s 6 = place off df mf := by rw [← hs]; exact lst_sh6 _ _ _ _ _ _ _ _ _ _ _ (by omega)
  have g8 : g s 8 = ttl := by rw [← hs]; exact lst_g8 _ _ _ _ _ _ _ _ _ _ _ (by omega)
  have g9 : g s 9 = proto := by rw [← hs]; exact lst_g9 _ _ _ _ _ _ _ _ _ _ _ (by omega)
  have g12 : wd s 12 = src := by rw [← hs]; exact lst_wd12 _ _ _ _ _ _ _ _ _ _ _ hsrc
  have g16 : wd s 16 = dst := by rw [← hs]; exact lst_wd16 _ _ _ _ _ _ _ _ _ _ _ hdst
  have hlen : s.length = 20 + O.size l + d.size := by rw [← hs, lst_length, List.length_append, O.enc_length, hdl]; omega
  have hdrop : s.drop 20 = O.enc l ++ d.data.toList := by rw [← hs]; rfl
  have hhl : hl s = 20 + O.size l := by unfold hl; rw [g0]; omega
  have hopt : (s.drop 20).take (hl s - 20) = O.enc l := by
    rw [hdrop, hhl, Nat.add_sub_cancel_left]
    exact List.take_left' (O.enc_length l)
  have hdat : s.drop (hl s) = d.data.toList := by
    have : s.drop (hl s) = (s.drop 20).drop (O.size l) := by rw [List.drop_drop, hhl]
    rw [this, hdrop, List.drop_left' (O.enc_length l)]
  refine ⟨⟨by omega, by rw [g0]; omega, by omega, by rw [g6]; omega, by omega, by omega, ?_, ?_, ?_⟩, ?_, hhl⟩
  · rw [hhl, htake]
    exact hgood
  · rw [hopt]
    exact O.parse_enc l hr.hopts hr.hsize
  · rw [g6, b3, hhl, hlen]
    omega
  · unfold pkt
    rw [g1, g4, g6, g8, g9, g12, g16, b1, b2, b3, hdat]
    rfl
end H
#print axioms H.enc_ok
end Go.Proofs.YtncnildpbccpaaaGreatDoor

