/- Joined from: Leaf. -/
import Derived.Test.YthehcbbdkiomnaaJ01
import Derived.Test.YthehcbbdkiomnaaJ04
section

/- What several orders come to where the addresses of two new blocks hang on the order. No condition of its own. -/
namespace Go.Proofs.Ythehcbbdkiomnaa
open Go.RowKit

theorem fill_blank (ts : Array Value) (js : List Nat) (h : ∀ j ∈ js, j < ts.size) : fill (fun j => ts.getD j undef) js (blank js ts) = ts := by
  apply Array.ext_getElem?
  intro k
  rw [fill_get, blank_get, blank_size]
  by_cases hk : k ∈ js
  · have hl := h k hk
    simp [hk, hl, Array.getD]
  · simp [hk]
/-- What several orders come to where the values of some slots hang on the order. -/
theorem leaf_vals {Q : Exit → Act → World → Prop} {ts us : Array Value} {ds : List Deferred} {W : World} (js : List Nat) (P : (Nat → Value) → World → Prop) (hj : js.all (fun j => decide (j < ts.size)) = true) (hus : blank js ts = us)
    (hfin : ∀ (x : Nat → Value) (W' : World), P x W' → Q .normal ⟨fill x js us, ds⟩ W') (hP : P (fun j => ts.getD j undef) W) : Q .normal ⟨ts, ds⟩ W := by
  have e := fill_blank ts js (fun j hm => by simpa using (List.all_eq_true.1 hj) j hm)
  rw [hus] at e
  have := hfin _ W hP
  rw [e] at this
  exact this
end Go.Proofs.Ythehcbbdkiomnaa
end
