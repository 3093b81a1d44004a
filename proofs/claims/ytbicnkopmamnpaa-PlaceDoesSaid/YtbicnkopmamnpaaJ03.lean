/- Joined from: KeptE. -/
import Derived.Test.YtbicnkopmamnpaaJ01
import Derived.Test.YtbicnkopmamnpaaJ02
import Derived.Laws.OwnMore
import Derived.ArgAppend
section

/- Classes of worlds: all blocks that hold no elements of one type are as they were; all blocks that aren't a call's own. A cell of an own row. No condition of its own. -/
namespace Go.Proofs.Ytbicnkopmamnpaa
open Go.RowKit

def KeptE (e : TypeId) (w w' : World) : Prop := w.heap.size ≤ w'.heap.size ∧ ∀ (g : Nat) (cs : Array Value) (t : Nat) (fz : Nat × Nat), w.heap[g]? = some (.cells cs t fz) → t ≠ e → w'.heap[g]? = w.heap[g]?
theorem KeptE.refl (e : TypeId) (w : World) : KeptE e w w := ⟨Nat.le_refl _, fun _ _ _ _ _ _ => rfl⟩
structure KepE (e : TypeId) (W : World) where
  val : World
  is : KeptE e W val
instance (e : TypeId) (W : World) : Nonempty (KepE e W) := ⟨⟨W, KeptE.refl e W⟩⟩
theorem set_heap_other {w : World} {g k : Nat} {o : Nat} (v : Value) (h : k ≠ g) : (w.setCell ⟨g, o, none⟩ v).heap[k]? = w.heap[k]? := Below.heap_setCell _ _ _ _ h
theorem cell_of_heap {w : World} {g : Nat} {cs : Array Value} {t : Nat} {fz : Nat × Nat} (h : w.heap[g]? = some (.cells cs t fz)) (o : Nat) : w.cell? ⟨g, o, none⟩ = cs[o]? := by simp [World.cell?, h]
/-- What a world built of new blocks, draws, stores and contracts' worlds leaves, by its own tactic. -/
theorem blw {w W : World} (h : Below w.heap.size w W := by repeat (first | with_reducible exact brefl _ | with_reducible assumption | (with_reducible refine bset ?_ (by first | (simp; done) | (simp; omega)) _) | with_reducible refine balloc ?_ _ | with_reducible refine bdrew ?_ _ | with_reducible refine bdrew1 ?_ | with_reducible refine bthen ?_ (by assumption) | with_reducible refine Below.trans ?_ (by assumption) | exact brefl _ | assumption | refine balloc ?_ _ | refine bdrew ?_ _ | refine bdrew1 ?_ | refine bthen ?_ (by assumption) | refine Below.trans ?_ (by assumption) | (refine bset ?_ (by first | (simp; done) | (simp; omega)) _))) : Below w.heap.size w W := h
theorem wld_ofA {w W : World} {X : List Nat} (h : Same w X W := by repeat (first | with_reducible exact same_below (brefl _) | with_reducible exact same_below (bdrew1 (brefl _)) | with_reducible assumption | with_reducible refine same_drew ?_ | (with_reducible refine same_set ?_ (by first | (left; simp; done) | (right; simp; done) | (right; simp; omega)) _) | with_reducible refine same_then ?_ (by assumption) | with_reducible refine same_alloc ?_ _ | exact same_below (brefl _) | exact same_realloc (by simp) | exact same_below (bdrew1 (brefl _)) | assumption | refine same_drew ?_ | refine same_then ?_ (by assumption) | refine same_alloc ?_ _ | (refine same_set ?_ (by first | (left; simp; done) | (right; simp; done) | (right; simp; omega)) _))) : ∃ p : Wld w X, W = p.val := wld_of h
def KeptO (own : Nat → Nat → Prop) (w w' : World) : Prop := w.heap.size ≤ w'.heap.size ∧ ∀ (g : Nat) (cs : Array Value) (t : Nat) (fz : Nat × Nat), w.heap[g]? = some (.cells cs t fz) → ¬ own g t → w'.heap[g]? = w.heap[g]?
theorem KeptO.refl (own : Nat → Nat → Prop) (w : World) : KeptO own w w := ⟨Nat.le_refl _, fun _ _ _ _ _ _ => rfl⟩
structure KepP (own : Nat → Nat → Prop) (W : World) where
  val : World
  is : KeptO own W val
instance (own : Nat → Nat → Prop) (W : World) : Nonempty (KepP own W) := ⟨⟨W, KeptO.refl own W⟩⟩
theorem row_at {w : World} {base e size n c : Nat} {a : Option Addr} {xs : List Value} (h : w.ownsRow base e size (.slice a n c) n xs) (j : Nat) (hj : j < n * size) :
    ∃ (g : Nat) (cs : Array Value) (u : Value), a = some ⟨g, 0, none⟩ ∧ base ≤ g ∧ w.heap[g]? = some (.cells cs e (0, 0)) ∧ w.cell? ⟨g, j, none⟩ = some u ∧ u ∈ xs ∧ w.frozen? ⟨g, j, none⟩ = false ∧ ∀ v, (w.setCell ⟨g, j, none⟩ v).ownsRow base e size (.slice a n c) n (xs.set j v) := by
  have hlen : xs.length = n * size := h.1
  rcases h.2 with ⟨_, rfl⟩ | ⟨g, cap, cur, hv, hg, hc, _⟩
  · simp at hj
  · injection hv with h1 h2 h3
    subst h1 h3
    refine ⟨g, cur, xs[j]'(by omega), rfl, hg, hc, ?_, List.getElem_mem _, h.frozenAt j, fun v => (h.stored j v).1⟩
    rw [h.cellAt j (by omega), List.getElem?_eq_getElem (by omega)]
end Go.Proofs.Ytbicnkopmamnpaa
end
