/- Joined from: KeptE PutF. -/
import Derived.Test.YtaladlaffglkeaaJ03
import Derived.Laws.OwnMore
import Derived.ArgAppend
import Derived.Test.YtaladlaffglkeaaJ01
section

/- Classes of worlds: all blocks that hold no elements of one type are as they were; all blocks that aren't a call's own. A cell of an own row. No condition of its own. -/
namespace Go.Proofs.Ytaladlaffglkeaa
open Go.RowKit

def KeptE (e : TypeId) (w w' : World) : Prop := w.heap.size ≤ w'.heap.size ∧ ∀ (g : Nat) (cs : Array Value) (t : Nat) (fz : Nat × Nat), w.heap[g]? = some (.cells cs t fz) → t ≠ e → w'.heap[g]? = w.heap[g]?
theorem KeptE.refl (e : TypeId) (w : World) : KeptE e w w := ⟨Nat.le_refl _, fun _ _ _ _ _ _ => rfl⟩
theorem KeptE.trans {e : TypeId} {a b c : World} (h : KeptE e a b) (k : KeptE e b c) : KeptE e a c := ⟨Nat.le_trans h.1 k.1, fun g cs t fz hg ht => (k.2 g cs t fz ((h.2 g cs t fz hg ht).trans hg) ht).trans (h.2 g cs t fz hg ht)⟩
theorem KeptE.below {e : TypeId} {w w' : World} (h : Below w.heap.size w w') : KeptE e w w' := ⟨h.size, fun g _ _ _ hg _ => h.block g (Array.getElem?_eq_some_iff.1 hg).1⟩
/-- A row of the call's own isn't a block of another kind. -/
theorem own_neE {w : World} {base size n : Nat} {e : TypeId} {v : Value} {xs : List Value} (h : w.ownsRow base e size v n xs) {g : Nat} {cs : Array Value} {t : Nat} {fz : Nat × Nat} (hg : w.heap[g]? = some (.cells cs t fz)) (ht : t ≠ e) : some g ≠ v.ownBlock := by
  rcases h.2 with ⟨rfl, _⟩ | ⟨g', cap, cur, rfl, _, hh, _⟩
  · simp [Value.ownBlock]
  · simp only [Value.ownBlock, ne_eq, Option.some.injEq]
    rintro rfl
    rw [hg] at hh
    injection hh with hh
    injection hh with _ h2 _
    exact ht h2
theorem KeptE.grown {e : TypeId} {w w' : World} {base size n : Nat} {v : Value} {xs : List Value} (h : w.ownsRow base e size v n xs) (hg : w.grownBy w' v.ownBlock) : KeptE e w w' :=
  ⟨hg.size, fun g _ _ _ h1 ht => hg.block g (Array.getElem?_eq_some_iff.1 h1).1 (own_neE h h1 ht)⟩
theorem KeptE.cell {e : TypeId} {w w' : World} (h : KeptE e w w') {g : Nat} {cs : Array Value} {t : Nat} {fz : Nat × Nat} (hg : w.heap[g]? = some (.cells cs t fz)) (ht : t ≠ e) (o : Nat) : w'.cell? ⟨g, o, none⟩ = cs[o]? := by
  rw [World.cell?_of_block (w := w) (by exact h.2 g cs t fz hg ht)]
  simp [World.cell?, hg]
/-- A row of another kind stays owned. -/
theorem KeptE.owns {e : TypeId} {w w' : World} (h : KeptE e w w') {base size n : Nat} {e' : TypeId} {v : Value} {xs : List Value} (ho : w.ownsRow base e' size v n xs) (hne : e' ≠ e) : w'.ownsRow base e' size v n xs := by
  refine ⟨ho.1, ?_⟩
  rcases ho.2 with g | ⟨g, cap, cur, hv, hg, hh, r⟩
  · exact .inl g
  · exact .inr ⟨g, cap, cur, hv, hg, by rw [h.2 g _ _ _ hh hne]; exact hh, r⟩
structure KepE (e : TypeId) (W : World) where
  val : World
  is : KeptE e W val
instance (e : TypeId) (W : World) : Nonempty (KepE e W) := ⟨⟨W, KeptE.refl e W⟩⟩
theorem kepE_start (e : TypeId) (W : World) : ∃ p : KepE e W, W.drew = p.val := ⟨⟨W.drew, KeptE.below (bdrew1 (brefl W))⟩, rfl⟩
theorem kepE_of {e : TypeId} {W W' : World} (h : KeptE e W W') : ∃ p : KepE e W, W' = p.val := ⟨⟨W', h⟩, rfl⟩
/-- 'append' onto a slice of the call's own, as one operation. -/
theorem wpAppO {P : Program} {w : World} {o : Oper} {a : Act} {K : Act → World → Prop} {Q : Exit → Act → World → Prop} (s x : Operand) (t : TypeId)
    (ho : o.op = .call { callee := .builtin .append, args := #[s, x], argTypes := #[t, t] })
    (base : Nat) (e : TypeId) (z : Value) (size bytes : Nat) (ht : P.underlying t = some (.slice e)) (hi : (P.info? e).map (fun i => (i.zero, i.size, i.bytes)) = some (some z, size, bytes)) (hzs : z.cells.size = size) (hsz : 0 < size)
    (v : Value) (n : Nat) (xs : List Value) (hs : a.eval s = v) (hown : w.ownsRow base e size v n xs)
    (p : Addr) (m c : Nat) (news : List Value) (hx : a.eval x = .slice (some p) m c) (hl : news.length = m * size) (hnews : Has w (some p) news) (h1 : ∀ u ∈ news, u.oneCell' = true)
    (h63 : n + m ≤ maxLen) (hbytes : (n + m) * bytes ≤ 140737488355328) (hbase : base ≤ w.heap.size)
    (h' : ∀ a' c' w', w'.ownsRow base e size (.slice a' (n + m) c') (n + m) (xs ++ news) → n + m ≤ c' → c' ≤ maxLen → (a' = none → c' = 0) → Below base w w' → w.grownBy w' v.ownBlock → K (a.put o.dst (.slice a' (n + m) c')) w') : o.wp P a w K Q := by
  obtain ⟨i, hi, hz, hz1, hz2⟩ := info_parts hi
  refine wp_append_own w s x t ho base e i z size bytes ht hi hz hz1 hz2 hzs hsz v n xs hs hown p m c news hx hl (fun j u hu => ?_) h1 h63 hbytes hbase fun v' w' g1 g2 _ => ?_
  · obtain ⟨q, hq, hc⟩ := hnews j u hu
    cases hq
    exact hc
  · obtain ⟨a', c', rfl, k1, k2, k3⟩ := owns_slice g1
    exact h' a' c' w' g1 k1 k2 k3 ((Below.refl base w).grown g2 hbase fun k hk => (hown.lt k hk).1) g2
theorem heap_new (w0 : World) (x : Value) (t : TypeId) : (w0.alloc (.cells #[x] t)).heap[w0.heap.size]? = some (.cells #[x] t (0, 0)) := by rw [heap_push, if_pos rfl]
theorem set_heap_at {w : World} {g o : Nat} {cs : Array Value} {t : TypeId} {fz : Nat × Nat} (v : Value) (h : w.heap[g]? = some (.cells cs t fz)) : (w.setCell ⟨g, o, none⟩ v).heap[g]? = some (.cells (cs.setIfInBounds o v) t fz) := by
  simp [World.setCell, Array.getElem?_modify, h]
theorem set_heap_other {w : World} {g k : Nat} {o : Nat} (v : Value) (h : k ≠ g) : (w.setCell ⟨g, o, none⟩ v).heap[k]? = w.heap[k]? := Below.heap_setCell _ _ _ _ h
theorem set_owns {w : World} {base e size n g o : Nat} {x : Value} {xs : List Value} (v : Value) (h : w.ownsRow base e size x n xs) (hne : some g ≠ x.ownBlock) : (w.setCell ⟨g, o, none⟩ v).ownsRow base e size x n xs :=
  ownsRow_setCell_other h (fun h => hne h.symm) v
theorem cell_of_heap {w : World} {g : Nat} {cs : Array Value} {t : Nat} {fz : Nat × Nat} (h : w.heap[g]? = some (.cells cs t fz)) (o : Nat) : w.cell? ⟨g, o, none⟩ = cs[o]? := by simp [World.cell?, h]
theorem froz_of_heap {w : World} {g : Nat} {cs : Array Value} {t : Nat} (h : w.heap[g]? = some (.cells cs t (0, 0))) (o : Nat) : w.frozen? ⟨g, o, none⟩ = false := by simp [World.frozen?, h]
/-- What a world built of new blocks, draws, stores and contracts' worlds leaves, by its own tactic. -/
theorem blw {w W : World} (h : Below w.heap.size w W := by repeat (first | with_reducible exact brefl _ | with_reducible assumption | (with_reducible refine bset ?_ (by first | (simp; done) | (simp; omega)) _) | with_reducible refine balloc ?_ _ | with_reducible refine bdrew ?_ _ | with_reducible refine bdrew1 ?_ | with_reducible refine bthen ?_ (by assumption) | with_reducible refine Below.trans ?_ (by assumption) | exact brefl _ | assumption | refine balloc ?_ _ | refine bdrew ?_ _ | refine bdrew1 ?_ | refine bthen ?_ (by assumption) | refine Below.trans ?_ (by assumption) | (refine bset ?_ (by first | (simp; done) | (simp; omega)) _))) : Below w.heap.size w W := h
theorem wld_ofA {w W : World} {X : List Nat} (h : Same w X W := by repeat (first | with_reducible exact same_below (brefl _) | with_reducible exact same_below (bdrew1 (brefl _)) | with_reducible assumption | with_reducible refine same_drew ?_ | (with_reducible refine same_set ?_ (by first | (left; simp; done) | (right; simp; done) | (right; simp; omega)) _) | with_reducible refine same_then ?_ (by assumption) | with_reducible refine same_alloc ?_ _ | exact same_below (brefl _) | exact same_realloc (by simp) | exact same_below (bdrew1 (brefl _)) | assumption | refine same_drew ?_ | refine same_then ?_ (by assumption) | refine same_alloc ?_ _ | (refine same_set ?_ (by first | (left; simp; done) | (right; simp; done) | (right; simp; omega)) _))) : ∃ p : Wld w X, W = p.val := wld_of h
theorem bel_ofA {B : Nat} {w W : World} (h : Below B w W := by repeat (first | exact Below.refl _ _ | assumption | refine bdrew1q ?_ | refine balloc ?_ _ | refine bthen ?_ (by assumption) | refine Below.trans ?_ (by assumption))) : ∃ p : BelW B w, W = p.val := bel_of h
def KeptO (own : Nat → Nat → Prop) (w w' : World) : Prop := w.heap.size ≤ w'.heap.size ∧ ∀ (g : Nat) (cs : Array Value) (t : Nat) (fz : Nat × Nat), w.heap[g]? = some (.cells cs t fz) → ¬ own g t → w'.heap[g]? = w.heap[g]?
theorem KeptO.refl (own : Nat → Nat → Prop) (w : World) : KeptO own w w := ⟨Nat.le_refl _, fun _ _ _ _ _ _ => rfl⟩
theorem KeptO.trans {own : Nat → Nat → Prop} {a b c : World} (h : KeptO own a b) (k : KeptO own b c) : KeptO own a c := ⟨Nat.le_trans h.1 k.1, fun g cs t fz hg ht => (k.2 g cs t fz ((h.2 g cs t fz hg ht).trans hg) ht).trans (h.2 g cs t fz hg ht)⟩
theorem KeptO.below {own : Nat → Nat → Prop} {w w' : World} (h : Below w.heap.size w w') : KeptO own w w' := ⟨h.size, fun g _ _ _ hg _ => h.block g (Array.getElem?_eq_some_iff.1 hg).1⟩
/-- A row of the call's own that grows: all else stays. -/
theorem KeptO.grown {own : Nat → Nat → Prop} {w w' : World} {base e size n : Nat} {v : Value} {xs : List Value} (h : w.ownsRow base e size v n xs) (hg : w.grownBy w' v.ownBlock) (ho : ∀ k, some k = v.ownBlock → own k e) : KeptO own w w' :=
  ⟨hg.size, fun k cs t fz h1 ht => hg.block k (Array.getElem?_eq_some_iff.1 h1).1 (by
    rcases h.2 with ⟨rfl, _⟩ | ⟨g', cap, cur, rfl, _, hh, _⟩
    · simp [Value.ownBlock]
    · intro he
      have hk := ho k he
      simp only [Value.ownBlock, Option.some.injEq] at he
      subst he
      rw [hh] at h1
      injection h1 with h1
      injection h1 with _ h2 _
      subst h2
      exact ht hk)⟩
theorem KeptO.cell {own : Nat → Nat → Prop} {w w' : World} (h : KeptO own w w') {g : Nat} {cs : Array Value} {t : Nat} {fz : Nat × Nat} (hg : w.heap[g]? = some (.cells cs t fz)) (ht : ¬ own g t) (o : Nat) : w'.cell? ⟨g, o, none⟩ = cs[o]? := by
  rw [World.cell?_of_block (w := w) (by exact h.2 g cs t fz hg ht)]
  simp [World.cell?, hg]
theorem KeptO.owns {own : Nat → Nat → Prop} {w w' : World} (h : KeptO own w w') {base size n : Nat} {e' : TypeId} {v : Value} {xs : List Value} (ho : w.ownsRow base e' size v n xs) (hne : ∀ k, ¬ own k e') : w'.ownsRow base e' size v n xs := by
  refine ⟨ho.1, ?_⟩
  rcases ho.2 with g | ⟨g, cap, cur, hv, hg, hh, r⟩
  · exact .inl g
  · exact .inr ⟨g, cap, cur, hv, hg, by rw [h.2 g _ _ _ hh (hne _)]; exact hh, r⟩
structure KepP (own : Nat → Nat → Prop) (W : World) where
  val : World
  is : KeptO own W val
instance (own : Nat → Nat → Prop) (W : World) : Nonempty (KepP own W) := ⟨⟨W, KeptO.refl own W⟩⟩
theorem kepP_start (own : Nat → Nat → Prop) (W : World) : ∃ p : KepP own W, W.drew = p.val := ⟨⟨W.drew, KeptO.below (bdrew1 (brefl W))⟩, rfl⟩
theorem kepP_of {own : Nat → Nat → Prop} {W W' : World} (h : KeptO own W W') : ∃ p : KepP own W, W' = p.val := ⟨⟨W', h⟩, rfl⟩
theorem kepP_ofA {own : Nat → Nat → Prop} {W W' : World} (h : KeptO own W W' := by repeat (first | exact KeptO.refl _ _ | assumption | refine KeptO.trans ?_ (KeptO.below (bdrew1 (brefl _))) | refine KeptO.trans ?_ (KeptO.below (balloc (brefl _) _)) | refine KeptO.trans ?_ (KeptO.below (by assumption)) | refine KeptO.trans ?_ (by assumption))) : ∃ p : KepP own W, W' = p.val := kepP_of h
theorem row_at {w : World} {base e size n c : Nat} {a : Option Addr} {xs : List Value} (h : w.ownsRow base e size (.slice a n c) n xs) (j : Nat) (hj : j < n * size) :
    ∃ (g : Nat) (cs : Array Value) (u : Value), a = some ⟨g, 0, none⟩ ∧ base ≤ g ∧ w.heap[g]? = some (.cells cs e (0, 0)) ∧ w.cell? ⟨g, j, none⟩ = some u ∧ u ∈ xs ∧ w.frozen? ⟨g, j, none⟩ = false ∧ ∀ v, (w.setCell ⟨g, j, none⟩ v).ownsRow base e size (.slice a n c) n (xs.set j v) := by
  have hlen : xs.length = n * size := h.1
  rcases h.2 with ⟨_, rfl⟩ | ⟨g, cap, cur, hv, hg, hc, _⟩
  · simp at hj
  · injection hv with h1 h2 h3
    subst h1 h3
    refine ⟨g, cur, xs[j]'(by omega), rfl, hg, hc, ?_, List.getElem_mem _, h.frozenAt j, fun v => (h.stored j v).1⟩
    rw [h.cellAt j (by omega), List.getElem?_eq_getElem (by omega)]
end Go.Proofs.Ytaladlaffglkeaa
end
section

/- The document's Put, and where the new row lies; two rows of bytes that lie apart. Conditions: a slice of the call's own; a number from 0 on. -/
namespace Go.Proofs.Ytaladlaffglkeaa
open Go.RowKit Go.Lib

end Go.Proofs.Ytaladlaffglkeaa
end
