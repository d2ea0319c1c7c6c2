/- A segment's bytes: how many, and the ports in them; the walk of Encode, right or not. -/
import Derived.Test.YtohemlejceiojaaSgEnc
namespace Go.Proofs.Ytohemlejceiojaa
open Go.RowKit
set_option linter.unusedVariables false
set_option maxRecDepth 100000

theorem put_length (h : List UInt8) (k c : Nat) (d : ByteArray) (hk : k + 2 ≤ h.length) : (S.put h k c d).length = h.length + d.size := by
  have e : d.data.toList.length = d.size := Array.length_toList
  unfold S.put
  simp only [List.length_append, List.length_take, List.length_drop, be2_length, e]
  omega

namespace S
def enc6 (src dst sp dp sq ak fl wi : Nat) (d : ByteArray) : List UInt8 := put (head6 sp dp sq ak fl wi) 16 (cks 6 src dst (head6 sp dp sq ak fl wi) d) d
def enc17 (src dst sp dp : Nat) (d : ByteArray) : List UInt8 := put (head17 sp dp d.size) 6 (cks 17 src dst (head17 sp dp d.size) d) d
/-- A right segment's bytes. -/
def enc (p : Int) (src dst : Nat) (sp dp sq ak fl wi : Int) (d : ByteArray) : List UInt8 :=
  if p = 6 then enc6 src dst sp.toNat dp.toNat sq.toNat ak.toNat fl.toNat wi.toNat d else enc17 src dst sp.toNat dp.toNat d
end S

theorem enc_length (p : Int) (src dst : Nat) (sp dp sq ak fl wi : Int) (d : ByteArray) : (S.enc p src dst sp dp sq ak fl wi d).length = (if p = 6 then 20 else 8) + d.size := by
  unfold S.enc
  by_cases h : p = 6
  · rw [if_pos h, if_pos h]; exact put_length _ 16 _ d (by rw [S.head6_length]; omega)
  · rw [if_neg h, if_neg h]; exact put_length _ 6 _ d (by rw [S.head17_length]; omega)

/-- Its ports come first. -/
theorem enc_ports (p : Int) (src dst : Nat) (sp dp sq ak fl wi : Int) (d : ByteArray) : ∃ t, S.enc p src dst sp dp sq ak fl wi d = be2 sp.toNat ++ (be2 dp.toNat ++ t) := by
  unfold S.enc
  by_cases h : p = 6
  · rw [if_pos h]; exact ⟨_, rfl⟩
  · rw [if_neg h]; exact ⟨_, rfl⟩

theorem be2_val (n : Nat) (h : n ≤ 65535) : 256 * (UInt8.ofNat (n / 256)).toNat + (UInt8.ofNat n).toNat = n := by
  simp only [UInt8.toNat_ofNat']; omega

theorem ports_of (a b : Nat) (t : List UInt8) (ha : a ≤ 65535) (hb : b ≤ 65535) (n : Nat) (hn : 4 ≤ n) : H.sh ((be2 a ++ (be2 b ++ t)).take n) 0 = a ∧ H.sh ((be2 a ++ (be2 b ++ t)).take n) 2 = b := by
  obtain ⟨m, rfl⟩ : ∃ m, n = m + 4 := ⟨n - 4, by omega⟩
  exact ⟨be2_val a ha, be2_val b hb⟩

theorem senc_yes (p sp dp sq ak fl wi : Int) (src dst : Nat) (d : ByteArray) (w : World) (hsrc : src < 4294967296) (hdst : dst < 4294967296) (hsq : 0 ≤ sq ∧ sq < 4294967296) (hak : 0 ≤ ak ∧ ak < 4294967296) (hr : S.right p sp dp sq ak fl wi d.size = true) :
    Calls Try.prog 6 #[.int .i64 p, .int .u32 src, .int .u32 dst, sg sp dp sq ak fl wi d] w fun e w' =>
      e = .returned (.tuple #[.string (ba (S.enc p src dst sp dp sq ak fl wi d)), .int .i64 0]) ∧ Below w.heap.size w w' := by
  have hr' : S.Right p sp dp sq ak fl wi d.size := of_decide_eq_true hr
  have hp : p = 6 ∨ p = 17 := by unfold S.Right at hr'; omega
  have h0 : 0 ≤ sp ∧ 0 ≤ dp ∧ 0 ≤ fl ∧ 0 ≤ wi := by unfold S.Right S.fits at hr'; omega
  obtain ⟨a1, rfl⟩ : ∃ n : Nat, sp = n := ⟨sp.toNat, by omega⟩
  obtain ⟨a2, rfl⟩ : ∃ n : Nat, dp = n := ⟨dp.toNat, by omega⟩
  obtain ⟨a3, rfl⟩ : ∃ n : Nat, sq = n := ⟨sq.toNat, by omega⟩
  obtain ⟨a4, rfl⟩ : ∃ n : Nat, ak = n := ⟨ak.toNat, by omega⟩
  obtain ⟨a5, rfl⟩ : ∃ n : Nat, fl = n := ⟨fl.toNat, by omega⟩
  obtain ⟨a6, rfl⟩ : ∃ n : Nat, wi = n := ⟨wi.toNat, by omega⟩
  rcases hp with rfl | rfl
  · have e : S.enc 6 src dst a1 a2 a3 a4 a5 a6 d = S.put (S.head6 a1 a2 a3 a4 a5 a6) 16 (S.cks 6 src dst (S.head6 a1 a2 a3 a4 a5 a6) d) d := by
      unfold S.enc; rw [if_pos rfl]; simp only [Int.toNat_natCast]; rfl
    rw [e]
    exact senc6 src dst a1 a2 a3 a4 a5 a6 d w hsrc hdst (by omega) (by omega) hr
  · have e : S.enc 17 src dst a1 a2 a3 a4 a5 a6 d = S.put (S.head17 a1 a2 d.size) 6 (S.cks 17 src dst (S.head17 a1 a2 d.size) d) d := by
      unfold S.enc; rw [if_neg (by decide)]; simp only [Int.toNat_natCast]; rfl
    rw [e]
    exact senc17 src dst a1 a2 a3 a4 a5 a6 d w hsrc hdst (by omega) (by omega) hr
#print axioms senc_yes
end Go.Proofs.Ytohemlejceiojaa
