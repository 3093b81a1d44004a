
/- The contract of the reference's rows of layer 5. Conditions: no more than 2000 bytes; need at least 2, keys at least 1, and need at least twice keys. -/
import Derived.Test.YthjnpfhcjacibaaSPlaceLaw
import Derived.Test.YthjnpfhcjacibaaRef1
import Derived.Test.YthjnpfhcjacibaaRef2
namespace Go.Proofs.Ythjnpfhcjacibaa
open Go.RowKit

theorem wrap64_bd (x : Int) : -9223372036854775808 ≤ wrap64 x ∧ wrap64 x ≤ 9223372036854775807 := by unfold wrap64; omega
theorem wrapi64_bd (x : Int) : -9223372036854775808 ≤ IntKind.i64.wrap x ∧ IntKind.i64.wrap x ≤ 9223372036854775807 := by rw [IntWalk.i64_left]; exact wrap64_bd x
def placesV (j S M : Nat) : List Int := (List.range M).map fun i => ((j + 10 + i * S : Nat) : Int)
theorem placesV_length (j S M : Nat) : (placesV j S M).length = M := by simp [placesV]
theorem placesV_get (j S M i : Nat) (h : i < M) : (placesV j S M).getD i 0 = ((j + 10 + i * S : Nat) : Int) := by
  simp [placesV, List.getD_eq_getElem?_getD, List.getElem?_map, List.getElem?_range h]
theorem placesV_succ (j S M : Nat) : placesV j S (M + 1) = placesV j S M ++ [((j + 10 + M * S : Nat) : Int)] := by simp [placesV, List.range_succ]
theorem placesV_take (j S M m : Nat) (h : m ≤ M) : (placesV j S M).take m = placesV j S m := by
  simp only [placesV]
  rw [← List.map_take, List.take_range, Nat.min_eq_left h]
def PlRel (B : Nat) (w : World) (j S N : Nat) (l i : Value) (wr : World) : Prop :=
  ∃ (k : Nat) (a' : Option Addr) (c' : Nat), k ≤ N ∧ i = .int .i64 (k : Nat) ∧ l = .slice a' k c' ∧ k ≤ c' ∧ c' ≤ maxLen ∧ (a' = none → c' = 0) ∧ wr.ownsRow B 3 1 l k (intsV (placesV j S k)) ∧ Below w.heap.size w wr
def AllFFRel (T : List UInt8) (K : Nat) (l i : Value) : Prop := ∃ k : Nat, k ≤ K ∧ i = .int .i64 (k : Nat) ∧ l = .bool (allFF T k)
theorem allFF_succ (T : List UInt8) (k : Nat) : allFF T (k + 1) = (allFF T k && (num T (2 * k) 2 == 65535)) := by simp [allFF, List.range_succ]
def SRefIs (bs : List UInt8) (k : Int) (need keys : Nat) (w : World) (e : Ending) (w' : World) : Prop :=
  ((∃ (j : Nat) (a' : Option Addr) (c' : Nat), k = (j : Nat) ∧ skOk bs j need ∧ e = .returned (.tuple #[.slice a' (skM bs j keys) c', .int .i64 (skS bs j : Nat), .bool true]) ∧ Has w' a' (intsV (placesV j (skS bs j) (skM bs j keys))) ∧ skM bs j keys ≤ c' ∧ c' ≤ maxLen) ∨
   ((∀ j : Nat, k = (j : Nat) → ¬ skOk bs j need) ∧ e = .returned (.tuple #[.slice none 0 0, .int .i64 0, .bool false]))) ∧ Below w.heap.size w w'

end Go.Proofs.Ythjnpfhcjacibaa
