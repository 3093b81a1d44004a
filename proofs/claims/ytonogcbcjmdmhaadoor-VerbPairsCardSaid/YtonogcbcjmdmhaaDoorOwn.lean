
/- Contracts of view.Of, (View).Rows, (View).Bytes and slices.Clone of bytes. Conditions: as many bytes as the slice says, no more than its capacity; Bytes: fewer than 2^46. -/
import Derived.Test.YtonogcbcjmdmhaaDoorNums
namespace Go.Proofs.YtonogcbcjmdmhaaDoor
open Go.RowKit

theorem adv_zero (a : Option Addr) (c : Nat) : adv a c 0 = a := by
  unfold adv
  cases a <;> simp [Addr.add]

theorem quo_in (x s : Nat) (h : x ≤ 9223372036854775807) : wrap64 ((x : Int) / (s : Int)) = ((x / s : Nat) : Int) := by
  rw [← Int.natCast_ediv]
  have := Nat.div_le_self x s
  generalize x / s = q at *
  exact IntWalk.wrap64_in _ (by omega)
theorem quo_dec (x s m : Nat) (h : x ≤ 9223372036854775807) (hd : m ≤ x / s) : ((s : Int) == 0 || decide ((m : Int) ≤ wrap64 ((x : Int) / (s : Int)))) = true := by
  rw [quo_in x s h]
  generalize x / s = q at *
  have : decide ((m : Int) ≤ (q : Int)) = true := by simp; omega
  rw [this, Bool.or_true]
theorem quo_dec' (x s m : Nat) (h : x ≤ 9223372036854775807) (h0 : ¬ s = 0) (hd : ¬ m ≤ x / s) : ((s : Int) == 0 || decide ((m : Int) ≤ wrap64 ((x : Int) / (s : Int)))) = false := by
  rw [quo_in x s h]
  generalize x / s = q at *
  have h1 : decide ((m : Int) ≤ (q : Int)) = false := by simp; omega
  have h2 : ((s : Int) == 0) = false := by simp; omega
  rw [h1, h2]; rfl

theorem u8_info : (Tryd.prog.info? 5).map (fun i => (i.zero, i.size, i.bytes)) = some (some (.int .u8 0), 1, 1) := by kernel_rfl


end Go.Proofs.YtonogcbcjmdmhaaDoor
