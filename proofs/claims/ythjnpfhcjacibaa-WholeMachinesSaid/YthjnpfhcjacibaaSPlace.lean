
/- The contract of seek.Place: where a number stands in a rising list. Condition: the list rises. -/
import Derived.Test.YthjnpfhcjacibaaSFirst
namespace Go.Proofs.Ythjnpfhcjacibaa
open Go.RowKit

def intsV (zs : List Int) : List Value := zs.map (Value.int .i64)
theorem intsV_length (zs : List Int) : (intsV zs).length = zs.length := by simp [intsV]
theorem intsV_get (zs : List Int) (j : Nat) (h : j < zs.length) : (intsV zs)[j]? = some (.int .i64 (zs.getD j 0)) := by
  simp [intsV, List.getElem?_map, List.getElem?_eq_getElem h, List.getD_eq_getElem?_getD]
def IsPlace (zs : List Int) (x : Int) (B : Nat) (w : World) (e : Ending) (w' : World) : Prop :=
  ((∃ i : Nat, i < zs.length ∧ zs.getD i 0 = x ∧ e = .returned (.tuple #[.int .i64 i, .bool true])) ∨ ((∀ i, i < zs.length → zs.getD i 0 ≠ x) ∧ e = .returned (.tuple #[.int .i64 0, .bool false]))) ∧ Below B w w'
end Go.Proofs.Ythjnpfhcjacibaa
