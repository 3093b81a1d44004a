
/- Slices of numbers of two bytes as arguments. No condition. -/
import Derived.Test.YthjnpfhcjacibaaFrame
namespace Go.Proofs.Ythjnpfhcjacibaa
open Go.ChangeShapes Go.WideShapes Go.ChangeAt Go.RowKit
open Go.ChangeMaps (open_string shut_string)

def u16V (ss : List Nat) : List Value := ss.map fun s => .int .u16 (s : Nat)
theorem u16V_length (ss : List Nat) : (u16V ss).length = ss.length := by simp [u16V]
theorem u16V_get (ss : List Nat) (j : Nat) (h : j < ss.length) : (u16V ss)[j]? = some (.int .u16 (ss.getD j 0 : Nat)) := by
  simp [u16V, List.getElem?_map, List.getElem?_eq_getElem h, List.getD_eq_getElem?_getD]
theorem u16s_of : ∀ zs : List Int, (∀ z ∈ zs, (Lit.int .u16 z).wf = true) → ∃ ss : List Nat, ss.length = zs.length ∧ zs.map (Value.int .u16) = u16V ss ∧ ∀ s ∈ ss, s ≤ 65535
  | [], _ => ⟨[], rfl, rfl, fun s h => by cases h⟩
  | z :: zs, h => by
    obtain ⟨ss, h1, h2, h3⟩ := u16s_of zs (fun y hy => h y (by simp [hy]))
    obtain ⟨k, rfl, hk⟩ := wf_u16 (h z (by simp))
    exact ⟨k :: ss, by simp [h1], by simp [h2, u16V], fun s hs => by
      rcases List.mem_cons.1 hs with rfl | hs
      · exact hk
      · exact h3 s hs⟩

end Go.Proofs.Ythjnpfhcjacibaa
