
/- Contracts of the law's 'cut': a piece of bytes, cut three ways, or that it was thrown. Conditions: the slice's, and that the kind is one of three. -/
import Derived.Test.YthjnpfhcjacibaaOwn
import Derived.Test.YthjnpfhcjacibaaTree
namespace Go.Proofs.Ythjnpfhcjacibaa
open Go.RowKit

/-- Is there such a piece? -/
def fitK (n : Nat) (kind : Nat) (k m s : Int) : Prop := match kind with
  | 0 => 0 ≤ k ∧ 0 ≤ m ∧ k ≤ n ∧ m ≤ n - k
  | 1 => 0 ≤ k ∧ k ≤ n
  | _ => 0 ≤ k ∧ k ≤ n ∧ 0 ≤ m ∧ 0 ≤ s ∧ (s = 0 ∨ m.toNat ≤ (n - k.toNat) / s.toNat)
/-- How many bytes it has. -/
def lenK (n : Nat) (kind : Nat) (k m s : Int) : Nat := match kind with
  | 0 => m.toNat
  | 1 => n - k.toNat
  | _ => m.toNat * s.toNat
theorem lenK_le {n kind : Nat} {k m s : Int} (h : fitK n kind k m s) : 0 ≤ k ∧ k.toNat + lenK n kind k m s ≤ n := by
  unfold fitK at h
  unfold lenK
  match kind with
  | 0 => simp only at h ⊢; omega
  | 1 => simp only at h ⊢; omega
  | kind + 2 =>
    simp only at h ⊢
    obtain ⟨h1, h2, h3, h4, h5⟩ := h
    have : m.toNat * s.toNat ≤ n - k.toNat := by
      rcases h5 with rfl | h
      · simp
      · exact Nat.le_trans (Nat.mul_le_mul_right _ h) (Nat.div_mul_le_self _ _)
    omega

/-- How a function that is tried leaves the cells of bytes and of their number. -/
def CutR (W : World) (g4 g5 : Nat) (bs : List UInt8) (ok : Bool) (w' : World) : Prop :=
  (ok = true ∧ ∃ W1 a c, Below W.heap.size W W1 ∧ W1.ownsRow W.heap.size 5 1 (.slice a bs.length c) bs.length (bytesV bs) ∧ bs.length ≤ c ∧ c ≤ maxLen ∧ (a = none → c = 0) ∧ w' = (W1.setCell ⟨g4, 0, none⟩ (.slice a bs.length c)).setCell ⟨g5, 0, none⟩ (.int .i64 bs.length)) ∨ (ok = false ∧ Below W.heap.size W w')

end Go.Proofs.Ythjnpfhcjacibaa
