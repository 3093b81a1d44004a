
/- (*Table).Most. Conditions: a table in memory, its parts rising, its numbers there. -/
import Derived.Test.YthjnpfhcjacibaaLAll
namespace Go.Proofs.Ythjnpfhcjacibaa
open Go.RowKit Go.Lib Go.Shelf
attribute [local go_sem] Oper.semAt_some

theorem heap_kept {A C : World} {row : Option Nat} {k : Nat} {cs : Array Value} {t : Nat} {fz : Nat × Nat} (h : A.heap[k]? = some (.cells cs t fz)) (hg : A.grownBy C row) (hr : ∀ r, row = some r → ∃ o : Obj, A.heap[r]? = some o ∧ o.isCells = false) : C.heap[k]? = some (.cells cs t fz) := by
  refine (hg.block k (Array.getElem?_eq_some_iff.1 h).1 ?_).trans h
  rintro e
  obtain ⟨o, ho, hc⟩ := hr k e.symm
  rw [h] at ho
  cases ho
  cases hc
theorem KeepC.set {B : Nat} {own : Nat → Nat → Prop} {w w' : World} (h : KeepC B own w w') {b o : Nat} (hB : B ≤ b) {cs : Array Value} {t : Nat} {fz : Nat × Nat} (hb : w'.heap[b]? = some (.cells cs t fz)) (ho : own b t) (v : Value) : KeepC B own w (w'.setCell ⟨b, o, none⟩ v) := by
  refine ⟨h.below.setCell (p := ⟨b, o, none⟩) hB v, by simpa using h.size, fun k cs' t' fz' hk hn => ?_⟩
  have := (h.kept k cs' t' fz' hk hn).trans hk
  refine (set_heap_other v ?_).trans (h.kept k cs' t' fz' hk hn)
  rintro rfl
  rw [hb] at this
  cases this
  exact hn ho
def mostL (l : List (Int × Int)) : Int := l.foldl (fun m x => max m x.2) (-1)
theorem mostL_snoc (l : List (Int × Int)) (x : Int × Int) : mostL (l ++ [x]) = max (mostL l) x.2 := by simp [mostL]
end Go.Proofs.Ythjnpfhcjacibaa
