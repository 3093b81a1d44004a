/- Joined from: Leaf. -/
import Derived.Test.YthehcbbdkiomnaaJ01
import Derived.Test.YthehcbbdkiomnaaJ04
section

/- What several orders come to where the addresses of two new blocks hang on the order. No condition of its own. -/
namespace Go.Proofs.Ythehcbbdkiomnaa
open Go.RowKit

theorem fill_blank (ts : Array Value) (js : List Nat) (h : ∀ j ∈ js, j < ts.size) : fill (fun j => ts.getD j undef) js (blank js ts) = ts := by
  apply Array.ext_getElem?
  intro k
  rw [fill_get, blank_get, blank_size]
  by_cases hk : k ∈ js
  · have hl := h k hk
    simp [hk, hl, Array.getD]
  · simp [hk]
/-- What several orders come to where the values of some slots hang on the order. -/
theorem leaf_vals {Q : Exit → Act → World → Prop} {ts us : Array Value} {ds : List Deferred} {W : World} (js : List Nat) (P : (Nat → Value) → World → Prop) (hj : js.all (fun j => decide (j < ts.size)) = true) (hus : blank js ts = us)
    (hfin : ∀ (x : Nat → Value) (W' : World), P x W' → Q .normal ⟨fill x js us, ds⟩ W') (hP : P (fun j => ts.getD j undef) W) : Q .normal ⟨ts, ds⟩ W := by
  have e := fill_blank ts js (fun j hm => by simpa using (List.all_eq_true.1 hj) j hm)
  rw [hus] at e
  have := hfin _ W hP
  rw [e] at this
  exact this
theorem str_wld' {w : World} {base n c : Nat} {a : Option Addr} {bs : List UInt8} (h : w.ownsRow base 5 1 (.slice a n c) n (bytesV bs)) (hl : bs.length = n) (X : List Nat) (hX : ∀ x, x ∈ X → x < base) (p : Wld w X) :
    (convert 22 9 (.slice a n c)).run Try.prog p.val = .ok (.string (str bs)) p.val := by
  refine run_str Try.underlying22 Try.underlying5 Try.underlying9 ?_ hl
  intro j u hu
  obtain ⟨q, hq, hc⟩ := has_of_owns h j u hu
  refine ⟨q, hq, ?_⟩
  rw [World.cell?_of_block (p.is.block _ (cell_lt hc) ?_)]
  · exact hc
  · intro hm
    have h1 := hX _ hm
    rw [add_block] at h1
    rcases h.2 with ⟨hv, _⟩ | ⟨g, cap, cur, hv, hg, _⟩
    · cases hv; cases hq
    · injection hv with h2
      rw [h2] at hq
      cases hq
      simp only at h1
      omega
end Go.Proofs.Ythehcbbdkiomnaa
end
