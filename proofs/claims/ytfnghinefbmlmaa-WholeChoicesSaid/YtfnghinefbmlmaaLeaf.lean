
/- What several orders come to where the addresses of two new blocks hang on the order. No condition of its own. -/
import Derived.Test.YtfnghinefbmlmaaKeptE
namespace Go.Proofs.Ytfnghinefbmlmaa
open Go.RowKit

theorem leaf_two {Q : Exit → Act → World → Prop} {ts us : Array Value} {ds : List Deferred} {W : World} (i j : Nat) (hij : i ≠ j) (P : Nat → Nat → World → Prop) (g h : Nat) (hg : ts[i]? = some (.pointer (some ⟨g, 0, none⟩))) (hh : ts[j]? = some (.pointer (some ⟨h, 0, none⟩))) (hus : blank [i, j] ts = us)
    (hfin : ∀ (g' h' : Nat) (W' : World), P g' h' W' → Q .normal ⟨(us.setIfInBounds i (.pointer (some ⟨g', 0, none⟩))).setIfInBounds j (.pointer (some ⟨h', 0, none⟩)), ds⟩ W') (hP : P g h W) : Q .normal ⟨ts, ds⟩ W := by
  have e : (us.setIfInBounds i (.pointer (some ⟨g, 0, none⟩))).setIfInBounds j (.pointer (some ⟨h, 0, none⟩)) = ts := by
    subst hus
    have h1 := (Array.getElem?_eq_some_iff.1 hg).1
    have h2 := (Array.getElem?_eq_some_iff.1 hh).1
    apply Array.ext_getElem?
    intro k
    simp only [blank, Array.getElem?_setIfInBounds, Array.size_setIfInBounds]
    by_cases e1 : j = k
    · subst e1; simp [h2]; exact (Array.getElem?_eq_some_iff.1 hh).2.symm
    · by_cases e2 : i = k
      · subst e2; simp [e1, h1]; exact (Array.getElem?_eq_some_iff.1 hg).2.symm
      · simp [e1, e2]
  rw [← e]
  exact hfin g h W hP
theorem fill_blank (ts : Array Value) (js : List Nat) (h : ∀ j ∈ js, j < ts.size) : fill (fun j => ts.getD j undef) js (blank js ts) = ts := by
  apply Array.ext_getElem?
  intro k
  rw [fill_get, blank_get, blank_size]
  by_cases hk : k ∈ js
  · have hl := h k hk
    simp [hk, hl, Array.getD]
  · simp [hk]
/-- What several orders come to where the values of some slots hang on the order. -/
theorem leaf_vals {Q : Exit → Act → World → Prop} {ts us : Array Value} {ds : List Deferred} {W : World} (js : List Nat) (P : (Nat → Value) → World → Prop) (hj : js.all (fun j => decide (j < ts.size)) = true) (hus : blank js ts = us)
    (hfin : ∀ (x : Nat → Value) (W' : World), P x W' → Q .normal ⟨fill x js us, ds⟩ W') (hP : P (fun j => ts.getD j undef) W) : Q .normal ⟨ts, ds⟩ W := by
  have e := fill_blank ts js (fun j hm => by simpa using (List.all_eq_true.1 hj) j hm)
  rw [hus] at e
  have := hfin _ W hP
  rw [e] at this
  exact this
theorem two_new (w : World) (x y : Value) (t s : TypeId) : ((w.alloc (.cells #[x] t)).alloc (.cells #[y] s)).drew.heap[w.heap.size]? = some (.cells #[x] t (0, 0)) ∧ ((w.alloc (.cells #[x] t)).alloc (.cells #[y] s)).drew.heap[w.heap.size + 1]? = some (.cells #[y] s (0, 0)) ∧ ((w.alloc (.cells #[x] t)).alloc (.cells #[y] s)).drew.heap.size = w.heap.size + 2 := by
  have h0 : ((w.alloc (.cells #[x] t)).alloc (.cells #[y] s)).heap[w.heap.size]? = some (.cells #[x] t (0, 0)) := by rw [heap_push, if_neg (by simp), heap_push, if_pos rfl]
  have h1 : ((w.alloc (.cells #[x] t)).alloc (.cells #[y] s)).heap[w.heap.size + 1]? = some (.cells #[y] s (0, 0)) := by rw [heap_push, if_pos (by simp)]
  exact ⟨h0, h1, by simp⟩
theorem str_wld' {w : World} {base n c : Nat} {a : Option Addr} {bs : List UInt8} (h : w.ownsRow base 5 1 (.slice a n c) n (bytesV bs)) (hl : bs.length = n) (X : List Nat) (hX : ∀ x, x ∈ X → x < base) (p : Wld w X) :
    (convert 32 9 (.slice a n c)).run Try.prog p.val = .ok (.string (str bs)) p.val := by
  refine run_str Try.underlying32 Try.underlying5 Try.underlying9 ?_ hl
  intro j u hu
  obtain ⟨q, hq, hc⟩ := has_of_owns h j u hu
  refine ⟨q, hq, ?_⟩
  rw [World.cell?_of_block (p.is.block _ (cell_lt hc) ?_)]
  · exact hc
  · intro hm
    have h1 := hX _ hm
    rw [add_block] at h1
    rcases h.2 with ⟨hv, _⟩ | ⟨g, cap, cur, hv, hg, _⟩
    · cases hv; cases hq
    · injection hv with h2
      rw [h2] at hq
      cases hq
      simp only at h1
      omega
end Go.Proofs.Ytfnghinefbmlmaa
