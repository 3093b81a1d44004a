
/- The contract of seek.First, of any function that answers true from some number on, whatever it does to the world beside. Condition: n isn't below 0. -/
import Derived.Test.YthjnpfhcjacibaaZed
import Derived.Test.YthjnpfhcjacibaaTry
import Derived.Lib.BitFns
namespace Go.Proofs.Ythjnpfhcjacibaa
open Go.RowKit

theorem pred_nil (fn : Fn) (first cap : Array Value) (w : World) : (binOp .eql 39 (.func fn first cap) .nilFunc).run Try.prog w = .ok (.bool false) w := by kernel_rfl

def FirstRel (n : Nat) (p : Nat → Bool) (I : Nat → World → Prop) (lo hi : Value) (wr : World) : Prop :=
  ∃ l h k : Nat, lo = .int .i64 l ∧ hi = .int .i64 h ∧ l ≤ h ∧ h ≤ n ∧ (∀ i, i < l → p i = false) ∧ (∀ i, h ≤ i → i < n → p i = true) ∧ k + Lib.bitLen (h - l) ≤ Lib.bitLen n ∧ I k wr
def FirstIs (n : Nat) (p : Nat → Bool) (I : Nat → World → Prop) (e : Ending) (w' : World) : Prop :=
  ∃ r k : Nat, r ≤ n ∧ (∀ i, i < r → p i = false) ∧ (∀ i, r ≤ i → i < n → p i = true) ∧ k ≤ Lib.bitLen n ∧ e = .returned (.int .i64 r) ∧ I k w'

theorem bitLen_mono (a b : Nat) (h : a ≤ b) (hb : b < 2 ^ 64) : Lib.bitLen a ≤ Lib.bitLen b := by
  induction b using Nat.strongRecOn generalizing a with
  | _ b ih =>
    by_cases h0 : a = 0
    · subst h0; have : Lib.bitLen 0 = 0 := by decide
      omega
    · rw [Lib.bitLen_half a h0 (by omega), Lib.bitLen_half b (by omega) hb]
      have := ih (b / 2) (by omega) (a / 2) (by omega) (by omega)
      omega

set_option maxRecDepth 100000 in
set_option maxHeartbeats 800000 in
theorem first_any (G : FuncId) (cap : Array Value) (n : Nat) (p : Nat → Bool) (I : Nat → World → Prop) (w : World) (hn : n ≤ 9223372036854775807) (hm : ∀ i j, i ≤ j → j < n → p i = true → p j = true) (hI : I 0 w)
    (hinv : ∀ args w, (callFunc G args).run Try.prog w = .ok (.enter G args) w)
    (hcall : ∀ (i k : Nat) (W : World), i < n → k < Lib.bitLen n → I k W → Calls Try.prog G (#[.int .i64 i] ++ cap) W fun e w' => e = .returned (.bool (p i)) ∧ I (k + 1) w') :
    Calls Try.prog 23 #[.int .i64 n, .func (.func G) #[] cap] w (FirstIs n p I) := by
  have HI := Lib.hid hI
  have HM := Lib.hid hm
  have HC := Lib.hid hcall
  have hN := pred_nil
  clear hI hm hcall
  go_enter Try.func23, Try.ntmps23
  go_wp2_with fail
  go_loopw [5, 6] (FirstRel n p I) (fun l h _ => (intOf h).toNat - (intOf l).toNat)
  case atStart => exact ⟨0, n, 0, rfl, rfl, Nat.zero_le _, Nat.le_refl _, fun i hi => by omega, fun i h1 h2 => by omega, by rw [Nat.sub_zero]; omega, HI.out⟩
  case round =>
    obtain ⟨l, h, k, rfl, rfl, hle, hhn, hlo, hhi, hkb, hIk⟩ := hrel
    have HLO := Lib.hid hlo
    have HHI := Lib.hid hhi
    have HK := Lib.hid hkb
    have HIK := Lib.hid hIk
    clear hlo hhi hkb hIk
    by_cases hlt : l < h
    · obtain ⟨m, hm⟩ : ∃ m, m = l + (h - l) / 2 := ⟨_, rfl⟩
      have hml : l ≤ m := by omega
      have hmh : m < h := by omega
      have hh1 : m - l ≤ (h - l) / 2 := by omega
      have hh2 : h - (m + 1) ≤ (h - l) / 2 := by omega
      have HB := Lib.hid (Lib.bitLen_half (h - l) (by omega) (by omega))
      have HC' := Lib.hid (show ∀ x : Int, x = (m : Nat) → Calls Try.prog G (#[.int .i64 x] ++ cap) wr fun e w' => e = .returned (.bool (p m)) ∧ I (k + 1) w' from by rintro x rfl; exact HC.out m k wr (by omega) (by have := HK.out; have := HB.out; omega) HIK.out)
      have HMX := Lib.hid hm
      go_wp2_with fail
      refine (HC'.out _ (by have := HMX.out; omega)).mono ?_
      rintro e w2 ⟨rfl, hI2⟩
      have HI2 := Lib.hid hI2
      have e1 : (l : Int) + ((h : Int) - (l : Int)) / 2 = (m : Nat) := by have := HMX.out; omega
      rw [e1]
      clear hI2 hm e1
      generalize hp : p m = y
      have HP := Lib.hid hp
      clear hp
      cases y with
      | true =>
        go_wp2
        go_roundw
        case rel => exact ⟨l, m, k + 1, rfl, rfl, hml, by omega, HLO.out, fun i h1 h2 => HM.out m i h1 h2 HP.out, by have := HK.out; have := HB.out; have := bitLen_mono _ _ hh1 (by omega); omega, HI2.out⟩
        case measure => simp [intOf]; omega
      | false =>
        go_wp2
        go_roundw
        case rel => exact ⟨m + 1, h, k + 1, by go_num, rfl, by omega, hhn, fun i hi => (by
          cases hq : p i with
          | false => rfl
          | true => have := HM.out i m (by omega) (by omega) hq; rw [HP.out] at this; exact this.symm ▸ rfl), HHI.out, by have := HK.out; have := HB.out; have := bitLen_mono _ _ hh2 (by omega); omega, HI2.out⟩
        case measure => simp [intOf]; omega
    · obtain rfl : l = h := by omega
      go_wp2
      go_ret
      exact ⟨l, k, hhn, HLO.out, HHI.out, by have := HK.out; rw [Nat.sub_self] at this; have h0 : Lib.bitLen 0 = 0 := by decide
                                             omega, rfl, HIK.out⟩
end Go.Proofs.Ythjnpfhcjacibaa
