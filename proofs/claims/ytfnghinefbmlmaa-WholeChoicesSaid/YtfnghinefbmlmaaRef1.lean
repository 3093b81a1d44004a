
/- Contracts of the reference of layer 1: In, U, S16, S32, Rows. Conditions: sizes as the law hands them in. -/
import Derived.Test.YtfnghinefbmlmaaNums
namespace Go.Proofs.Ytfnghinefbmlmaa
open Go.RowKit

set_option maxRecDepth 100000 in
set_option maxHeartbeats 800000 in
theorem in_any (n : Nat) (k m : Int) (w : World) (hn : n ≤ maxLen) (hk : -9223372036854775808 ≤ k ∧ k ≤ 9223372036854775807) (hm : -9223372036854775808 ≤ m ∧ m ≤ 9223372036854775807) :
    Calls Try.prog 54 #[.int .i64 n, .int .i64 k, .int .i64 m] w fun e w' => e = .returned (.bool (decide (0 ≤ k ∧ 0 ≤ m ∧ k ≤ n ∧ m ≤ n - k))) ∧ w = w' := by
  unfold maxLen at hn
  obtain ⟨hk1, hk2⟩ := hk
  obtain ⟨hm1, hm2⟩ := hm
  obtain ⟨B, hB⟩ : ∃ B : Bool, B = decide (0 ≤ k ∧ 0 ≤ m ∧ k ≤ n ∧ m ≤ n - k) := ⟨_, rfl⟩
  rw [← hB]
  have HB := Lib.hid hB
  clear hB
  by_cases h1 : 0 ≤ k
  · by_cases h2 : 0 ≤ m
    · by_cases h3 : k ≤ n
      · go_enter Try.func54, Try.ntmps54
        go_wp2
        go_ret
        refine ⟨?_, rfl⟩
        rw [HB.out]
        have : decide (m ≤ (n : Int) - k) = decide (0 ≤ k ∧ 0 ≤ m ∧ k ≤ n ∧ m ≤ n - k) := by rw [decide_eq_decide]; omega
        rw [← this]; rfl
      · have hb : B = false := by rw [HB.out]; simp; omega
        subst hb
        go_enter Try.func54, Try.ntmps54
        go_wp2
        go_ret
        exact ⟨rfl, rfl⟩
    · have hb : B = false := by rw [HB.out]; simp; omega
      subst hb
      go_enter Try.func54, Try.ntmps54
      go_wp2
      go_ret
      exact ⟨rfl, rfl⟩
  · have hb : B = false := by rw [HB.out]; simp; omega
    subst hb
    go_enter Try.func54, Try.ntmps54
    go_wp2
    go_ret
    exact ⟨rfl, rfl⟩

theorem num_lt (bs : List UInt8) (k : Nat) : ∀ i, num bs k i < 256 ^ i
  | 0 => by simp [num]
  | i + 1 => by
    have := num_lt bs k i
    have hb := byte_le (bs.getD (k + i) 0)
    simp only [num, Nat.pow_succ]; omega

def URel (bs : List UInt8) (k m : Nat) (x i : Value) : Prop := ∃ j : Nat, j ≤ m ∧ i = .int .i64 j ∧ x = .int .i64 (num bs k j : Nat)

set_option maxRecDepth 100000 in
set_option maxHeartbeats 800000 in
theorem u_in (a : Option Addr) (n c k m : Nat) (bs : List UInt8) (w : World) (h : Has w a (bytesV bs)) (hl : bs.length = n) (hk : k + m ≤ n) (hm : m ≤ 4) (hn : n ≤ maxLen) :
    Calls Try.prog 39 #[.slice a n c, .int .i64 k, .int .i64 m] w fun e w' => e = .returned (.int .i64 (num bs k m : Nat)) ∧ w = w' := by
  have hin := in_any n k m
  have hd : decide ((0 : Int) ≤ k ∧ (0 : Int) ≤ m ∧ (k : Int) ≤ n ∧ (m : Int) ≤ n - k) = true := by simp; omega
  rw [hd] at hin
  have HI := Lib.hid hin
  have HH := Lib.hid h
  have HL := Lib.hid hl
  have hn' := hn
  unfold maxLen at hn
  clear hin hd h hl
  go_enter Try.func39, Try.ntmps39
  go_wp2_with (first | (go_at_call 54; refine (HI.out _ hn' (by omega) (by omega)).mono ?_; rintro e w_ ⟨rfl, rfl⟩))
  go_loop [7, 8] (URel bs k m) (fun _ i => m - (intOf i).toNat)
  case atStart => exact ⟨0, Nat.zero_le _, rfl, rfl⟩
  case round =>
    obtain ⟨j, hj, rfl, rfl⟩ := hrel
    by_cases hlt : j < m
    · obtain ⟨b, o, ha, hb, hg⟩ := HH.out.get (by rw [bytesV_length, HL.out]; omega)
      have hc := hg (k + j) _ (bytesV_get bs (k + j) (by rw [HL.out]; omega))
      have hn1 : num bs k (j + 1) = 256 * num bs k j + (bs.getD (k + j) 0).toNat := rfl
      have HN := Lib.hid hn1
      have hx : num bs k j ≤ 16777215 := by
        have := num_lt bs k j
        have h2 : 256 ^ j ≤ 256 ^ 3 := Nat.pow_le_pow_right (by omega) (by omega)
        omega
      have hby := byte_le (bs.getD (k + j) 0)
      generalize (bs.getD (k + j) 0).toNat = y at *
      generalize num bs k j = x at *
      clear hn1 hg
      subst ha
      go_wp2
      go_round
      case rel => exact ⟨j + 1, by omega, by go_num, by rw [HN.out]; go_num⟩
      case measure => simp [intOf]; omega
    · have : j = m := by omega
      subst this
      go_wp2
      go_ret
      exact ⟨rfl, rfl⟩

set_option maxHeartbeats 400000 in
theorem u_out (a : Option Addr) (n c m : Nat) (k : Int) (w : World) (hk : ¬ (0 ≤ k ∧ k + m ≤ n)) (hk' : -9223372036854775808 ≤ k ∧ k ≤ 9223372036854775807) (hm : m ≤ 4) (hn : n ≤ maxLen) :
    Calls Try.prog 39 #[.slice a n c, .int .i64 k, .int .i64 m] w fun e w' => e = .returned (.int .i64 (-1)) ∧ w = w' := by
  have hin := in_any n k m
  have hd : decide ((0 : Int) ≤ k ∧ (0 : Int) ≤ m ∧ k ≤ n ∧ (m : Int) ≤ n - k) = false := by simp; omega
  rw [hd] at hin
  have HI := Lib.hid hin
  have HK := Lib.hid hk'
  have hn' := hn
  unfold maxLen at hn
  clear hin hd hk hk'
  go_enter Try.func39, Try.ntmps39
  go_wp2_with (first | (go_at_call 54; refine (HI.out _ hn' HK.out (by omega)).mono ?_; rintro e w_ ⟨rfl, rfl⟩))
  go_ret
  exact ⟨rfl, rfl⟩
end Go.Proofs.Ytfnghinefbmlmaa
