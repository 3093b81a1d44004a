
/- The walks of layer 1's laws. -/
import Derived.Test.YtajhljgcbafbcaaOwn
import Derived.Test.YtajhljgcbafbcaaTry
namespace Go.Proofs.Ytajhljgcbafbcaa
open Go.RowKit

/-- All of a list are bytes. -/
def AllU8 (xs : List Value) : Prop := ∀ u ∈ xs, ∃ z : Int, u = .int .u8 z

theorem owns_u8 {w : World} {base n c : Nat} {a : Option Addr} {xs : List Value} (h : w.ownsRow base 5 1 (.slice a n c) n xs) (hx : AllU8 xs) (k : Nat) (hk : k < n) :
    ∃ g z, a = some ⟨g, 0, none⟩ ∧ base ≤ g ∧ w.cell? ⟨g, k, none⟩ = some (.int .u8 z) ∧ w.frozen? ⟨g, k, none⟩ = false ∧
      ∀ z', ∃ xs', (w.setCell ⟨g, k, none⟩ (.int .u8 z')).ownsRow base 5 1 (.slice a n c) n xs' ∧ AllU8 xs' := by
  have hlen : xs.length = n := by simpa using h.1
  rcases h.2 with ⟨_, rfl⟩ | ⟨g, cap, cur, hv, hg, _⟩
  · omega
  · injection hv with h1 h2 h3
    subst h1 h3
    obtain ⟨z, hz⟩ := hx _ (List.getElem_mem (show k < xs.length by omega))
    refine ⟨g, z, rfl, hg, ?_, h.frozenAt k, fun z' => ⟨_, (h.stored k _).1, ?_⟩⟩
    · rw [h.cellAt k (by omega), List.getElem?_eq_getElem (by omega), hz]
    · intro u hu
      rcases List.mem_or_eq_of_mem_set hu with hu | rfl
      · exact hx u hu
      · exact ⟨z', rfl⟩
theorem u8_bytes (bs : List UInt8) : AllU8 (bytesV bs) := by
  intro u hu
  simp only [bytesV, List.mem_map] at hu
  obtain ⟨b, _, rfl⟩ := hu
  exact ⟨_, rfl⟩
def OwnRel (B n : Nat) (a : Option Addr) (c : Nat) (w : World) (i : Value) (wr : World) : Prop :=
  ∃ k : Nat, k ≤ n ∧ i = .int .i64 k ∧ Below B w wr ∧ ∃ xs, wr.ownsRow B 5 1 (.slice a n c) n xs ∧ AllU8 xs

end Go.Proofs.Ytajhljgcbafbcaa
