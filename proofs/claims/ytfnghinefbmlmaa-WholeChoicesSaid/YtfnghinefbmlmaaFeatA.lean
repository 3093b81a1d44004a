
/- Package feat: which setting is on at first, and a feature out of its bytes. Conditions: as many bytes as the slices say. -/
import Derived.Test.YtfnghinefbmlmaaZed
import Derived.Test.YtfnghinefbmlmaaKeptE
import Derived.Laws.BitsAllLaws
namespace Go.Proofs.Ytfnghinefbmlmaa
open Go.RowKit Go.Lib

/-- A bit of a number. -/
def bt (k n : Nat) : Bool := decide (k / 2 ^ n % 2 = 1)
theorem and_two (k n : Nat) : (k &&& 2 ^ n = 0) ↔ bt k n = false := by
  have ht : k.testBit n = bt k n := by
    rw [Nat.testBit_eq_decide_div_mod_eq]; rfl
  rw [← ht]
  constructor
  · intro h
    have := congrArg (fun m => m.testBit n) h
    simpa [Nat.testBit_and, Nat.testBit_two_pow] using this
  · intro h
    apply Nat.eq_of_testBit_eq
    intro i
    rw [Nat.testBit_and, Nat.testBit_two_pow, Nat.zero_testBit]
    by_cases hi : n = i
    · subst hi; simp [h]
    · simp [hi]
theorem i64_and (a b : Nat) (ha : a ≤ 65535) (hb : b ≤ 65535) : bits .and .i64 (a : Int) (b : Int) = ((a &&& b : Nat) : Int) := by
  have hx : a &&& b < 2 ^ 16 := Nat.and_lt_two_pow _ (by omega)
  show IntKind.i64.wrap ((BitVec.ofInt 64 (a : Int) &&& BitVec.ofInt 64 (b : Int)).toNat : Int) = _
  rw [BitVec.toNat_and, ofInt64 a (by omega), ofInt64 b (by omega), IntKind.wrap_i64]
  omega
theorem and_bit (k n : Nat) (h : k ≤ 65535) (hn : n < 16) : (bits .and .i64 (k : Int) ((2 ^ n : Nat) : Int) != 0) = bt k n := by
  have h2 : 2 ^ n < 65536 := Nat.pow_lt_pow_right (by decide) hn
  rw [i64_and k (2 ^ n) h (by omega)]
  have := and_two k n
  cases hb : bt k n with
  | false => rw [hb] at this; rw [this.2 rfl]; rfl
  | true =>
    rw [hb] at this
    have hne : ¬ (k &&& 2 ^ n) = 0 := fun h => by have := this.1 h; cases this
    rw [bne_iff_ne]
    intro h
    exact hne (by omega)
theorem and_255 (k : Nat) (h : k ≤ 65535) : bits .and .i64 (k : Int) 255 = ((k % 256 : Nat) : Int) := by
  have := i64_and k 255 h (by decide)
  rw [show ((255 : Nat) : Int) = 255 from rfl] at this
  rw [this, show (255 : Nat) = 2 ^ 8 - 1 from rfl, Nat.and_two_pow_sub_one_eq_mod]
theorem and_b15 (k : Nat) (h : k ≤ 65535) : (bits .and .i64 (k : Int) 32768 != 0) = bt k 15 := and_bit k 15 h (by decide)
theorem and_b14 (k : Nat) (h : k ≤ 65535) : (bits .and .i64 (k : Int) 16384 != 0) = bt k 14 := and_bit k 14 h (by decide)

/-- Settings as cells. -/
def setV (sb : List UInt8) (m : Nat) : List Value := (List.range m).map fun j => .int .i64 (num sb (4 * j) 2 : Nat)
theorem setV_get (sb : List UInt8) (m j : Nat) (h : j < m) : (setV sb m)[j]? = some (.int .i64 (num sb (4 * j) 2 : Nat)) := by simp [setV, List.getElem?_map, List.getElem?_range h]
def placeF (fl : Nat) : Nat := if bt fl 14 = true then fl % 256 else 0
def firstF (sb : List UInt8) (m fl : Nat) : Int := if placeF fl < m then ((num sb (4 * placeF fl) 2 : Nat) : Int) else -1
theorem first_any (a : Option Addr) (m c fl : Nat) (sb : List UInt8) (w : World) (h : Has w a (setV sb m)) (hf : fl ≤ 65535) (hm : m ≤ 65535) :
    Calls Try.prog 59 #[.slice a m c, .int .i64 (fl : Nat)] w fun e w' => e = .returned (.int .i64 (firstF sb m fl)) ∧ w = w' := by
  have h14 := and_b14 fl hf
  have h255 := and_255 fl hf
  have HF := Lib.hid (show firstF sb m fl = if placeF fl < m then ((num sb (4 * placeF fl) 2 : Nat) : Int) else -1 from rfl)
  have HP := Lib.hid (show placeF fl = if bt fl 14 = true then fl % 256 else 0 from rfl)
  have hp : placeF fl ≤ 255 := by unfold placeF; split <;> omega
  generalize firstF sb m fl = R at *
  generalize placeF fl = p at *
  by_cases hlt : p < m
  · obtain ⟨b, o, rfl, hb, hc⟩ := h.get (by simp [setV]; omega)
    have e0 := hc p _ (setV_get sb m p hlt)
    obtain rfl : R = (num sb (4 * p) 2 : Nat) := by rw [HF.out, if_pos hlt]
    generalize num sb (4 * p) 2 = R at *
    clear hc HF h
    have d1 : decide (m ≤ p) = false := by simp; omega
    have d2 : decide ((m : Int) ≤ (p : Int)) = false := by simp; omega
    cases hb14 : bt fl 14 with
    | true =>
      rw [hb14] at h14
      have hpe := HP.out
      rw [hb14, if_pos rfl] at hpe
      rw [← hpe] at h255
      clear HP hpe hb14
      go_enter Try.func59, Try.ntmps59
      go_wp2_with fail
      go_ret
      exact ⟨rfl, rfl⟩
    | false =>
      rw [hb14] at h14
      obtain rfl : p = 0 := by rw [HP.out, hb14]; rfl
      have d3 : decide ((m : Int) ≤ 0) = false := by simp; omega
      have e0 : w.cell? ⟨b, o, none⟩ = some (.int .i64 (R : Nat)) := e0
      clear HP hb14 h255 d1 d2
      go_enter Try.func59, Try.ntmps59
      go_wp2_with fail
      go_ret
      exact ⟨rfl, rfl⟩
  · obtain rfl : R = -1 := by rw [HF.out, if_neg hlt]
    clear HF h
    have d1 : decide (m ≤ p) = true := by simp; omega
    have d2 : decide ((m : Int) ≤ (p : Int)) = true := by simp; omega
    cases hb14 : bt fl 14 with
    | true =>
      rw [hb14] at h14
      have hpe := HP.out
      rw [hb14, if_pos rfl] at hpe
      rw [← hpe] at h255
      clear HP hpe hb14
      go_enter Try.func59, Try.ntmps59
      go_wp2_with fail
      go_ret
      exact ⟨rfl, rfl⟩
    | false =>
      rw [hb14] at h14
      obtain rfl : p = 0 := by rw [HP.out, hb14]; rfl
      obtain rfl : m = 0 := by omega
      clear HP hb14 h255 d1 d2 hlt
      go_enter Try.func59, Try.ntmps59
      go_wp2_with fail
      go_ret
      exact ⟨rfl, rfl⟩
end Go.Proofs.Ytfnghinefbmlmaa
