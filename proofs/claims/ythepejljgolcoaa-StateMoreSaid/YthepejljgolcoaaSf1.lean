
/- Contracts of package sfnt's small functions: lack, checksum, put32, put16, header. Conditions: sizes. -/
import Derived.Test.YthepejljgolcoaaOwn
namespace Go.Proofs.Ythepejljgolcoaa
open Go.RowKit

/-- How many bytes lack to a multiple of four. -/
def lackN (n : Nat) : Nat := (4 - n % 4) % 4

/-- The sum of the first numbers of four bytes, byte by byte. -/
def cks (bs : List UInt8) : Nat → Nat
  | 0 => 0
  | k + 1 => (cks bs k + (bs.getD k 0).toNat * 2 ^ (24 - 8 * (k % 4))) % 4294967296
theorem cks_lt (bs : List UInt8) (k : Nat) : cks bs k < 4294967296 := by
  cases k with
  | zero => simp [cks]
  | succ k => simp only [cks]; omega
def CkRel (bs : List UInt8) (n : Nat) (i z : Value) : Prop := ∃ k : Nat, k ≤ n ∧ i = .int .i64 k ∧ z = .int .u32 (cks bs k : Nat)
theorem byte_at {w : World} {a : Option Addr} {bs : List UInt8} (h : Has w a (bytesV bs)) {k : Nat} (hk : k < bs.length) : ∃ g o, a = some ⟨g, o, none⟩ ∧ g < w.heap.size ∧ w.cell? ⟨g, o + k, none⟩ = some (.int .u8 (bs.getD k 0).toNat) := by
  obtain ⟨g, o, ha, hg, hx⟩ := h.get (by rw [bytesV_length]; omega)
  exact ⟨g, o, ha, hg, hx k _ (bytesV_get _ _ hk)⟩

end Go.Proofs.Ythepejljgolcoaa
