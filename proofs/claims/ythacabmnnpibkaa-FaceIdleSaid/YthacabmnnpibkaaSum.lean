
/- The contract of the document's Sum: it is what the program's checksum is. Condition: fewer than 2^62 bytes. -/
import Derived.Test.YthacabmnnpibkaaSf2
namespace Go.Proofs.Ythacabmnnpibkaa
open Go.RowKit

def quad (bs : List UInt8) (i : Nat) : Nat → Nat
  | 0 => 0
  | k + 1 => quad bs i k * 256 + (bs.getD (i + k) 0).toNat
theorem quad_lt (bs : List UInt8) (i k : Nat) (hk : k ≤ 4) : quad bs i k ≤ 4294967295 := by
  have h := fun j => byte_le (bs.getD j 0)
  match k, hk with
  | 0, _ => simp [quad]
  | 1, _ => have := h (i + 0); simp only [quad]; omega
  | 2, _ => have := h (i + 0); have := h (i + 1); simp only [quad]; omega
  | 3, _ => have := h (i + 0); have := h (i + 1); have := h (i + 2); simp only [quad]; omega
  | 4, _ => have := h (i + 0); have := h (i + 1); have := h (i + 2); have := h (i + 3); simp only [quad]; omega
theorem cks_quad (bs : List UInt8) (j : Nat) : cks bs (4 * j + 4) = (cks bs (4 * j) + quad bs (4 * j) 4) % 4294967296 := by
  have e0 : (4 * j) % 4 = 0 := by omega
  have e1 : (4 * j + 1) % 4 = 1 := by omega
  have e2 : (4 * j + 2) % 4 = 2 := by omega
  have e3 : (4 * j + 3) % 4 = 3 := by omega
  simp only [cks, quad, e0, e1, e2, e3, Nat.add_zero]
  omega
theorem cks_over (bs : List UInt8) (k m : Nat) (h : bs.length ≤ k) : cks bs (k + m) = cks bs k := by
  induction m with
  | zero => rfl
  | succ m ih =>
    have e : bs.getD (k + m) 0 = 0 := by rw [List.getD_eq_getElem?_getD, List.getElem?_eq_none (by omega)]; rfl
    show (cks bs (k + m) + (bs.getD (k + m) 0).toNat * 2 ^ (24 - 8 * ((k + m) % 4))) % 4294967296 = _
    rw [e, ih]
    have := cks_lt bs k
    simp
    omega

set_option maxRecDepth 100000 in
set_option maxHeartbeats 1600000 in
theorem sum_any (a : Option Addr) (n c : Nat) (bs : List UInt8) (w : World) (h : Has w a (bytesV bs)) (hl : bs.length = n) (hn : n ≤ c) (hc : c ≤ maxLen) (hn2 : n ≤ 1000000000) :
    Calls Try.prog 25 #[.slice a n c] w fun e w' => e = .returned (.int .i64 (cks bs n : Nat)) ∧ w = w' := by
  have HH := Lib.hid h
  have HL := Lib.hid hl
  clear h hl
  go_enter Try.func25, Try.ntmps25
  go_wp2_with fail
  go_loopw [3, 4] (fun x i W => ∃ j : Nat, 4 * j ≤ n + 3 ∧ i = .int .i64 ((4 * j : Nat) : Int) ∧ x = .int .i64 (cks bs (4 * j) : Nat) ∧ W = w) (fun _ i _ => n + 3 - (intOf i).toNat)
  case atStart => exact ⟨0, by omega, by first | rfl | go_num, by first | rfl | go_num | simp [cks], by first | rfl | trivial⟩
  case round =>
    obtain ⟨j, hj, rfl, rfl, rfl⟩ := hrel
    have hck := cks_lt bs (4 * j)
    by_cases hlt : 4 * j < n
    · have HQ := Lib.hid (cks_quad bs j)
      go_wp2_with fail
      go_loopw [5, 6] (fun x k W => ∃ m : Nat, m ≤ 4 ∧ k = .int .i64 (m : Nat) ∧ x = .int .i64 (quad bs (4 * j) m : Nat) ∧ W = wr) (fun _ k _ => 4 - (intOf k).toNat)
      case atStart => exact ⟨0, by omega, by first | rfl | go_num, by first | rfl | go_num | simp [quad], by first | rfl | trivial⟩
      case round =>
        obtain ⟨m, hm, rfl, rfl, rfl⟩ := hrel
        have hq := quad_lt bs (4 * j) m hm
        by_cases hm4 : m < 4
        · have HS := Lib.hid (show quad bs (4 * j) (m + 1) = quad bs (4 * j) m * 256 + (bs.getD (4 * j + m) 0).toNat from rfl)
          have hq3 : quad bs (4 * j) m * 256 ≤ 4294967295 := by have := quad_lt bs (4 * j) (m + 1) (by omega); simp only [quad] at this; omega
          have hby := byte_le (bs.getD (4 * j + m) 0)
          by_cases hin : 4 * j + m < n
          · obtain ⟨g, o, rfl, hg, hb⟩ := byte_at HH.out (show 4 * j + m < bs.length by rw [HL.out]; exact hin)
            generalize (bs.getD (4 * j + m) 0).toNat = y at *
            generalize quad bs (4 * j) m = q at *
            go_wp2
            go_roundw
            case rel => exact ⟨m + 1, by omega, by go_num, by rw [HS.out]; go_num, by first | rfl | trivial⟩
            case measure => simp [intOf]; omega
          · have e0 : bs.getD (4 * j + m) 0 = 0 := by rw [List.getD_eq_getElem?_getD, List.getElem?_eq_none (by rw [HL.out]; omega)]; rfl
            rw [e0] at HS
            generalize quad bs (4 * j) m = q at *
            clear e0
            go_wp2
            go_roundw
            case rel => exact ⟨m + 1, by omega, by go_num, by rw [HS.out]; simp, by first | rfl | trivial⟩
            case measure => simp [intOf]; omega
        · obtain rfl : m = 4 := by omega
          generalize quad bs (4 * j) 4 = q at *
          generalize hcc : cks bs (4 * j) = cc at *
          clear hcc
          go_wp2
          go_roundw
          case rel => exact ⟨j + 1, by omega, by first | go_num | (congr 1; omega), by rw [show 4 * (j + 1) = 4 * j + 4 by omega, HQ.out]; go_num, by first | rfl | trivial⟩
          case measure => simp [intOf]; omega
    · have e0 : cks bs (4 * j) = cks bs n := by
        obtain ⟨m, hm⟩ : ∃ m, 4 * j = n + m := ⟨4 * j - n, by omega⟩
        rw [hm, cks_over bs n m (by rw [HL.out]; exact Nat.le_refl _)]
      rw [e0]
      go_wp2
      go_ret
      exact ⟨rfl, rfl⟩
end Go.Proofs.Ythacabmnnpibkaa
