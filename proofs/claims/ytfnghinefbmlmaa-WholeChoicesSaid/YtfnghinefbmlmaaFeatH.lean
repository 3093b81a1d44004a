
/- Features as cells. No condition. -/
import Derived.Test.YtfnghinefbmlmaaKeptE
namespace Go.Proofs.Ytfnghinefbmlmaa
open Go.RowKit

structure FEnt where
  ty : Nat
  ex : Bool
  df : Int
  s : Value
instance : Inhabited FEnt := ⟨⟨0, false, 0, .bool false⟩⟩
def FEnt.enc (f : FEnt) : List Value := [.int .i64 (f.ty : Nat), .bool f.ex, .int .i64 f.df, f.s]
def fents (fs : List FEnt) : List Value := fs.flatMap FEnt.enc
theorem fents_get : ∀ (fs : List FEnt) (k : Nat) (f : FEnt), fs[k]? = some f → ∀ o, o < 4 → (fents fs)[k * 4 + o]? = f.enc[o]?
  | [], _, _, h, _, _ => by simp at h
  | x :: fs, 0, p, h, o, ho => by
    simp at h; subst h
    show (x.enc ++ fents fs)[0 * 4 + o]? = _
    rw [Nat.zero_mul, Nat.zero_add, List.getElem?_append_left (by simpa [FEnt.enc] using ho)]
  | x :: fs, k + 1, p, h, o, ho => by
    have := fents_get fs k p (by simpa using h) o ho
    show (x.enc ++ fents fs)[(k + 1) * 4 + o]? = _
    rw [List.getElem?_append_right (by simp [FEnt.enc]; omega), show (k + 1) * 4 + o - (x.enc).length = k * 4 + o by simp [FEnt.enc]; omega, this]
def hitF (kind : Int) (f : FEnt) : Bool := ((f.ty : Int) == kind) && f.ex
end Go.Proofs.Ytfnghinefbmlmaa
