
/- Contracts of package view's numbers: U8, U16, U32, I16, I32 of a View whose bytes are known. Conditions: as many bytes as the slice says, no more than its capacity. -/
import Derived.Test.YtonogcbcjmdmhaaDoorView
namespace Go.Proofs.YtonogcbcjmdmhaaDoor
open Go.RowKit

/-- The number of so many bytes from a place on, the higher first. -/
def num (bs : List UInt8) (k : Nat) : Nat → Nat
  | 0 => 0
  | i + 1 => 256 * num bs k i + (bs.getD (k + i) 0).toNat
theorem num1 (bs : List UInt8) (k : Nat) : num bs k 1 = (bs.getD k 0).toNat := by simp [num]
theorem num2 (bs : List UInt8) (k : Nat) : num bs k 2 = 256 * (bs.getD k 0).toNat + (bs.getD (k + 1) 0).toNat := by simp [num]
theorem num4 (bs : List UInt8) (k : Nat) : num bs k 4 = 256 * (256 * (256 * (bs.getD k 0).toNat + (bs.getD (k + 1) 0).toNat) + (bs.getD (k + 2) 0).toNat) + (bs.getD (k + 3) 0).toNat := by simp [num]
theorem num2_lt (bs : List UInt8) (k : Nat) : num bs k 2 ≤ 65535 := by
  have := byte_le (bs.getD k 0); have := byte_le (bs.getD (k + 1) 0); rw [num2]; omega
theorem num4_lt (bs : List UInt8) (k : Nat) : num bs k 4 ≤ 4294967295 := by
  have := byte_le (bs.getD k 0); have := byte_le (bs.getD (k + 1) 0); have := byte_le (bs.getD (k + 2) 0); have := byte_le (bs.getD (k + 3) 0); rw [num4]; omega

theorem ofInt64 (a : Nat) (ha : a < 9223372036854775808) : (BitVec.ofInt 64 (a : Int)).toNat = a := by
  rw [BitVec.ofInt_natCast, BitVec.toNat_ofNat]; omega
/-- '|' of a multiple and what is below. -/
theorem or_add (a b i : Nat) (hb : b < 2 ^ i) (hab : a * 2 ^ i + b < 9223372036854775808) : bits .or .i64 ((a * 2 ^ i : Nat) : Int) (b : Int) = ((a * 2 ^ i + b : Nat) : Int) := by
  have h : a * 2 ^ i ||| b = a * 2 ^ i + b := by rw [Nat.mul_comm]; exact (Nat.two_pow_add_eq_or_of_lt hb a).symm
  show IntKind.i64.wrap (((BitVec.ofInt 64 ((a * 2 ^ i : Nat) : Int)) ||| (BitVec.ofInt 64 (b : Int))).toNat : Int) = _
  rw [BitVec.toNat_or, ofInt64 _ (by omega), ofInt64 _ (by omega), h, IntKind.wrap_i64]
  omega
theorem or8 (a b : Nat) (hb : b ≤ 255) (ha : a ≤ 16777215) : bits .or .i64 ((a : Int) * 256) (b : Int) = 256 * (a : Int) + b := by
  have := or_add a b 8 (by omega) (by omega)
  simp only [show (2 ^ 8 : Nat) = 256 from rfl, Int.natCast_mul, Int.natCast_add] at this
  rw [show ((256 : Nat) : Int) = 256 from rfl] at this
  rw [this]; omega

theorem or32 (x0 x1 x2 x3 : Nat) (h0 : x0 ≤ 255) (h1 : x1 ≤ 255) (h2 : x2 ≤ 255) (h3 : x3 ≤ 255) :
    bits .or .i64 (bits .or .i64 (bits .or .i64 ((x0 : Int) * 16777216) ((x1 : Int) * 65536)) ((x2 : Int) * 256)) (x3 : Int) = ((256 * (256 * (256 * x0 + x1) + x2) + x3 : Nat) : Int) := by
  have e1 := or_add x0 (x1 * 2 ^ 16) 24 (by omega) (by omega)
  have e2 := or_add (x0 * 256 + x1) (x2 * 2 ^ 8) 16 (by omega) (by omega)
  have e3 := or_add ((x0 * 256 + x1) * 256 + x2) x3 8 (by omega) (by omega)
  rw [show (x0 : Int) * 16777216 = ((x0 * 2 ^ 24 : Nat) : Int) by omega, show (x1 : Int) * 65536 = ((x1 * 2 ^ 16 : Nat) : Int) by omega, e1,
    show x0 * 2 ^ 24 + x1 * 2 ^ 16 = (x0 * 256 + x1) * 2 ^ 16 by omega, show (x2 : Int) * 256 = ((x2 * 2 ^ 8 : Nat) : Int) by omega, e2,
    show (x0 * 256 + x1) * 2 ^ 16 + x2 * 2 ^ 8 = ((x0 * 256 + x1) * 256 + x2) * 2 ^ 8 by omega, e3]
  omega

/-- What a call must know of two bytes. -/
theorem two_at {w : World} {a : Option Addr} {bs : List UInt8} {c k m : Nat} (h : Has w a (bytesV bs)) (hc : bs.length ≤ c) (hk : k + m ≤ bs.length) (hm : 0 < m) :
    ∃ b o, adv a c k = some ⟨b, o, none⟩ ∧ b < w.heap.size ∧ ∀ j, j < m → w.cell? ⟨b, o + j, none⟩ = some (.int .u8 (bs.getD (k + j) 0).toNat) := by
  have h' := h.adv c k (by rw [bytesV_length]; exact hc)
  obtain ⟨b, o, ha, hb, hg⟩ := h'.get (by rw [List.length_drop, bytesV_length]; omega)
  refine ⟨b, o, ha, hb, fun j hj => hg j _ ?_⟩
  rw [List.getElem?_drop, bytesV_get _ _ (by omega)]

/-- The number of two bytes, of four, below nought, too. -/
def s16 (x : Nat) : Int := if 32768 ≤ x then (x : Int) - 65536 else x
def s32 (x : Nat) : Int := if 2147483648 ≤ x then (x : Int) - 4294967296 else x

theorem wrap_s16 (x : Nat) (h : x ≤ 65535) : wrap64 (IntKind.i16.wrap x) = s16 x := by
  simp only [IntKind.wrap, IntKind.bits, IntKind.signed, wrap64, s16]; simp; split <;> split <;> omega
theorem wrap_s32' (x : Nat) (h : x ≤ 4294967295) : wrap64 (wrap32 x) = s32 x := by
  unfold wrap32 wrap64 s32; split <;> omega

end Go.Proofs.YtonogcbcjmdmhaaDoor
