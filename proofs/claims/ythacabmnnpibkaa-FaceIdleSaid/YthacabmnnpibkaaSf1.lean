
/- Contracts of package sfnt's small functions: lack, checksum, put32, put16, header. Conditions: sizes. -/
import Derived.Test.YthacabmnnpibkaaOwn
namespace Go.Proofs.Ythacabmnnpibkaa
open Go.RowKit

/-- How many bytes lack to a multiple of four. -/
def lackN (n : Nat) : Nat := (4 - n % 4) % 4

set_option maxHeartbeats 400000 in
theorem lack_any (a : Option Addr) (n c : Nat) (w : World) (hn : n ≤ 140737488355328) :
    Calls Try.prog 37 #[.slice a n c] w fun e w' => e = .returned (.int .i64 (lackN n)) ∧ w = w' := by
  have hL : (((lackN n : Nat)) : Int) = (4 - (n : Int) % 4) % 4 := by unfold lackN; omega
  have HL := Lib.hid hL
  clear hL
  go_enter Try.func37, Try.ntmps37
  go_wp2
  go_ret
  exact ⟨by rw [HL.out]; rfl, rfl⟩

/-- The sum of the first numbers of four bytes, byte by byte. -/
def cks (bs : List UInt8) : Nat → Nat
  | 0 => 0
  | k + 1 => (cks bs k + (bs.getD k 0).toNat * 2 ^ (24 - 8 * (k % 4))) % 4294967296
theorem cks_lt (bs : List UInt8) (k : Nat) : cks bs k < 4294967296 := by
  cases k with
  | zero => simp [cks]
  | succ k => simp only [cks]; omega
def CkRel (bs : List UInt8) (n : Nat) (i z : Value) : Prop := ∃ k : Nat, k ≤ n ∧ i = .int .i64 k ∧ z = .int .u32 (cks bs k : Nat)
theorem byte_at {w : World} {a : Option Addr} {bs : List UInt8} (h : Has w a (bytesV bs)) {k : Nat} (hk : k < bs.length) : ∃ g o, a = some ⟨g, o, none⟩ ∧ g < w.heap.size ∧ w.cell? ⟨g, o + k, none⟩ = some (.int .u8 (bs.getD k 0).toNat) := by
  obtain ⟨g, o, ha, hg, hx⟩ := h.get (by rw [bytesV_length]; omega)
  exact ⟨g, o, ha, hg, hx k _ (bytesV_get _ _ hk)⟩

set_option maxHeartbeats 800000 in
theorem checksum_any (a : Option Addr) (n c : Nat) (bs : List UInt8) (w : World) (h : Has w a (bytesV bs)) (hl : bs.length = n) (hn : n ≤ c) (hc : c ≤ maxLen) :
    Calls Try.prog 36 #[.slice a n c] w fun e w' => e = .returned (.int .u32 (cks bs n : Nat)) ∧ w = w' := by
  have HH := Lib.hid h
  have HL := Lib.hid hl
  clear h hl
  have hc' := hc
  unfold maxLen at hc'
  go_enter Try.func36, Try.ntmps36
  go_wp2_with fail
  go_loop [8, 3] (CkRel bs n) (fun i _ => n - (intOf i).toNat)
  case atStart => exact ⟨0, Nat.zero_le _, rfl, rfl⟩
  case round =>
    obtain ⟨k, hk, rfl, rfl⟩ := hrel
    by_cases hlt : k < n
    · obtain ⟨g, o, rfl, hg, hx⟩ := byte_at HH.out (k := k) (by rw [HL.out]; exact hlt)
      have hle := byte_le (bs.getD k 0)
      have hs := cks_lt bs k
      have HS := Lib.hid (show cks bs (k + 1) = (cks bs k + (bs.getD k 0).toNat * 2 ^ (24 - 8 * (k % 4))) % 4294967296 from rfl)
      generalize (bs.getD k 0).toNat = x at *
      generalize cks bs k = z at *
      have hr : k % 4 = 0 ∨ k % 4 = 1 ∨ k % 4 = 2 ∨ k % 4 = 3 := by omega
      rcases hr with hr | hr | hr | hr
      · have hr' : (k : Int) % 4 = 0 := by omega
        rw [hr] at HS
        clear hr
        go_wp2
        go_round
        case rel => exact ⟨k + 1, by omega, by go_num, by rw [HS.out]; congr 1 <;> omega⟩
        case measure => simp [intOf]; omega
      · have hr' : (k : Int) % 4 = 1 := by omega
        rw [hr] at HS
        clear hr
        go_wp2
        go_round
        case rel => exact ⟨k + 1, by omega, by go_num, by rw [HS.out]; congr 1 <;> omega⟩
        case measure => simp [intOf]; omega
      · have hr' : (k : Int) % 4 = 2 := by omega
        rw [hr] at HS
        clear hr
        go_wp2
        go_round
        case rel => exact ⟨k + 1, by omega, by go_num, by rw [HS.out]; congr 1 <;> omega⟩
        case measure => simp [intOf]; omega
      · have hr' : (k : Int) % 4 = 3 := by omega
        rw [hr] at HS
        clear hr
        go_wp2
        go_round
        case rel => exact ⟨k + 1, by omega, by go_num, by rw [HS.out]; congr 1 <;> omega⟩
        case measure => simp [intOf]; omega
    · obtain rfl : n = k := by omega
      go_wp2
      go_ret
      exact ⟨rfl, rfl⟩
end Go.Proofs.Ythacabmnnpibkaa
