/- As Ord, where two operations that do more than look may come next, in either order: both are walked. And classes of worlds in which some cells hold known values. No condition of its own. -/
import Derived.Test.YtfgkmgabldjpaaaOrd
namespace Go.Proofs.Ytfgkmgabldjpaaa
open Go.RowKit

inductive Tree where
  | nil
  | step (i : Nat) (r : Tree)
  | two (i : Nat) (r : Tree) (j : Nat) (s : Tree)
def Tree.deep : Tree → Nat
  | .nil => 0
  | .step _ r => r.deep + 1
  | .two _ r _ _ => r.deep + 1

section
variable {P : Program} {ops : Array Oper} {Q : Exit → Act → World → Prop} {S : World → Prop}

def wpTree (P : Program) (ops : Array Oper) (Q : Exit → Act → World → Prop) (S : World → Prop) : Tree → Act → World → Prop
  | .nil, a, w => Q .normal a w
  | .step i r, a, w => match ops[i]? with
    | none => False
    | some o =>
      if Region.wanted o (yielded ops a.tmps) = true then
        (if quietOp o.op = true then ∃ v, (∀ w', S w' → (execOp a.eval o).run P w' = .ok (.value v) w') ∧ wpTree P ops Q S r (a.put o.dst v) w
         else o.wp P a w (fun a' w' => S w' ∧ wpTree P ops Q S r a' w') Q)
      else wpTree P ops Q S r (a.put o.dst undef) w
  | .two i r j s, a, w => match ops[i]?, ops[j]? with
    | some o, some p =>
      Region.wanted o (yielded ops a.tmps) = true ∧ Region.wanted p (yielded ops a.tmps) = true ∧
        o.wp P a w (fun a' w' => S w' ∧ wpTree P ops Q S r a' w') Q ∧ p.wp P a w (fun a' w' => S w' ∧ wpTree P ops Q S s a' w') Q
    | _, _ => False

def treeB (ops : Array Oper) : Tree → Array Bool → Bool
  | .nil, listed => (Region.ready .any ops listed).isEmpty
  | .step i r, listed => (match ops[i]? with
    | some o => if quietOp o.op then (Region.ready .any ops listed).contains i && Region.free .any ops listed i else decide (Region.ready .any ops listed = [i])
    | none => false) && treeB ops r (listed.setIfInBounds i true)
  | .two i r j s, listed => decide (Region.ready .any ops listed = [i, j]) && decide (r.deep = s.deep) && treeB ops r (listed.setIfInBounds i true) && treeB ops s (listed.setIfInBounds j true)

theorem wpAnyH_of_tree (hs : Region.noSelect ops = true) (hQ : ∀ (c : List PanicEntry) (a : Act) (d : Option Tmp) (v : Value) (w : World), Q (.panic c) (a.put d v) w → Q (.panic c) a w) :
    ∀ (t : Tree) (listed : Array Bool) (a : Act) (w : World), treeB ops t listed = true → S w → wpTree P ops Q S t a w → wpAnyH P .any ops Q S t.deep listed a w
  | .nil, listed, a, w, hB, _, h => ⟨by simpa [treeB] using hB, h⟩
  | .step i r, listed, a, w, hB, hS, h => by
    simp only [treeB, Bool.and_eq_true] at hB
    obtain ⟨hB1, hB2⟩ := hB
    simp only [wpTree] at h
    cases ho : ops[i]? with
    | none => rw [ho] at h; exact h.elim
    | some o =>
      rw [ho] at h hB1
      simp only at h hB1
      by_cases hq : quietOp o.op = true
      · rw [if_pos hq] at hB1
        simp only [Bool.and_eq_true] at hB1
        have hready : i ∈ Region.ready .any ops listed := by simpa using hB1.1
        by_cases hw : Region.wanted o (yielded ops a.tmps) = true
        · rw [if_pos hw, if_pos hq] at h
          obtain ⟨v, hv, h'⟩ := h
          exact wpAnyH_first ho (Region.noSelect_spec hs) (fun c a w => hQ c a _ _ w) r.deep listed a w (Region.free_spec ho hB1.2) hready (.inl ⟨hw, hv⟩) hS (wpAnyH_of_tree hs hQ r _ _ _ hB2 hS h')
        · rw [if_neg hw] at h
          exact wpAnyH_first ho (Region.noSelect_spec hs) (fun c a w => hQ c a _ _ w) r.deep listed a w (Region.free_spec ho hB1.2) hready (.inr ⟨by simpa using hw, rfl⟩) hS (wpAnyH_of_tree hs hQ r _ _ _ hB2 hS h)
      · rw [if_neg hq] at hB1
        have hready : Region.ready .any ops listed = [i] := by simpa using hB1
        refine wpAnyH_all hready (by simp) fun j hj => ?_
        obtain rfl : j = i := by simpa using hj
        by_cases hw : Region.wanted o (yielded ops a.tmps) = true
        · rw [if_pos hw, if_neg hq] at h
          refine wpOp_run ho hw ?_
          exact Oper.wp_mono (fun a' w' g => ⟨g.1, wpAnyH_of_tree hs hQ r _ _ _ hB2 g.1 g.2⟩) h
        · rw [if_neg hw] at h
          exact wpOp_skip ho hw ⟨hS, wpAnyH_of_tree hs hQ r _ _ _ hB2 hS h⟩
  | .two i r j s, listed, a, w, hB, hS, h => by
    simp only [treeB, Bool.and_eq_true, decide_eq_true_eq] at hB
    obtain ⟨⟨⟨hready, hd⟩, hB1⟩, hB2⟩ := hB
    simp only [wpTree] at h
    cases ho : ops[i]? with
    | none => rw [ho] at h; exact h.elim
    | some o =>
      cases hp : ops[j]? with
      | none => rw [ho, hp] at h; exact h.elim
      | some p =>
        rw [ho, hp] at h
        obtain ⟨hw1, hw2, h1, h2⟩ := h
        refine wpAnyH_all hready (by simp) fun k hk => ?_
        have hk' : k = i ∨ k = j := by simpa using hk
        rcases hk' with rfl | rfl
        · refine wpOp_run ho hw1 ?_
          exact Oper.wp_mono (fun a' w' g => ⟨g.1, wpAnyH_of_tree hs hQ r _ _ _ hB1 g.1 g.2⟩) h1
        · refine wpOp_run hp hw2 ?_
          have := Oper.wp_mono (fun a' w' g => (⟨g.1, wpAnyH_of_tree hs hQ s _ _ _ hB2 g.1 g.2⟩ : S w' ∧ _)) h2
          rw [← hd] at this
          exact this

theorem wp_region_tree {id : Nat} {a : Act} {w : World} {l : List Oper} (t : Tree) (hm : P.follows .mixedOrders = true) (hs : Region.noSelect l.toArray = true) (hlen : decide (l.toArray.size = t.deep) = true)
    (hB : treeB l.toArray t (Array.replicate l.toArray.size false) = true)
    (hQ : ∀ (c : List PanicEntry) (a : Act) (d : Option Tmp) (v : Value) (w : World), Q (.panic c) (a.put d v) w → Q (.panic c) a w) (S : World → Prop) (hS : S w.drew)
    (h : wpTree P l.toArray Q S t a w.drew) : (Code.region id l.toArray true).wp P Q a w := by
  refine wp_region_held (S := S) hm ?_
  have := wpAnyH_of_tree hs hQ t _ a w.drew hB hS h
  rw [of_decide_eq_true hlen]
  rw [of_decide_eq_true hlen] at this
  exact this

/-! The steps of a walk. -/
theorem tree_nil {a : Act} {w : World} (h : Q .normal a w) : wpTree P ops Q S .nil a w := h
theorem tree_quiet {i : Nat} {r : Tree} {a : Act} {w : World} {o : Oper} (ho : ops[i]? = some o) (hq : quietOp o.op = true) (hw : Region.wanted o (yielded ops a.tmps) = true)
    (h : ∀ K : Act → Prop, (∀ a, wpTree P ops Q S r a w → K a) → o.quiet P a S K) : wpTree P ops Q S (.step i r) a w := by
  obtain ⟨v, h1, h2⟩ := h _ (fun _ h => h)
  simp only [wpTree, ho]
  rw [if_pos hw, if_pos hq]
  exact ⟨v, fun w' hw' => quiet_value hq (h1 w' hw'), h2⟩
theorem tree_skip {i : Nat} {r : Tree} {a : Act} {w : World} {o : Oper} (ho : ops[i]? = some o) (hw : Region.wanted o (yielded ops a.tmps) = false) (h : wpTree P ops Q S r (a.put o.dst undef) w) : wpTree P ops Q S (.step i r) a w := by
  simp only [wpTree, ho]
  rw [if_neg (by rw [hw]; exact Bool.false_ne_true)]
  exact h
theorem tree_run {i : Nat} {r : Tree} {a : Act} {w : World} {o : Oper} (ho : ops[i]? = some o) (hq : quietOp o.op = false) (hw : Region.wanted o (yielded ops a.tmps) = true)
    (h : ∀ K : Act → World → Prop, (∀ a w, S w → wpTree P ops Q S r a w → K a w) → o.wp P a w K Q) : wpTree P ops Q S (.step i r) a w := by
  simp only [wpTree, ho]
  rw [if_pos hw, if_neg (by rw [hq]; exact Bool.false_ne_true)]
  exact h _ fun _ _ h1 h2 => ⟨h1, h2⟩
theorem tree_two {i j : Nat} {r s : Tree} {a : Act} {w : World} {o p : Oper} (ho : ops[i]? = some o) (hp : ops[j]? = some p) (hw : Region.wanted o (yielded ops a.tmps) = true) (hw2 : Region.wanted p (yielded ops a.tmps) = true)
    (h : ∀ K : Act → World → Prop, (∀ a w, S w → wpTree P ops Q S r a w → K a w) → o.wp P a w K Q) (h2 : ∀ K : Act → World → Prop, (∀ a w, S w → wpTree P ops Q S s a w → K a w) → p.wp P a w K Q) : wpTree P ops Q S (.two i r j s) a w := by
  simp only [wpTree, ho, hp]
  exact ⟨hw, hw2, h _ fun _ _ h1 h2 => ⟨h1, h2⟩, h2 _ fun _ _ h1 h2 => ⟨h1, h2⟩⟩
end

/-- What several ways come to, proved once. -/
theorem cutP {P : Program} {Q : Exit → Act → World → Prop} {a : Act} {w : World} {cd : Code} {R : Prop} (h : (Unit → R) → cd.wp P Q a w) (p : R) : cd.wp P Q a w := h fun _ => p

theorem same_drew {w W : World} {X : List Nat} (h : Same w X W) : Same w X W.drew := same_then h (bdrew1 (brefl W))
/-! A class of worlds in which some cells hold known values. -/
structure Pin (w : World) (X : List Nat) (cs : List (Nat × Value)) where
  val : World
  is : Same w X val
  pin : ∀ c, c ∈ cs → val.cell? ⟨c.1, 0, none⟩ = some c.2
theorem pin_start {w : World} (X : List Nat) {cs : List (Nat × Value)} (h : ∀ c, c ∈ cs → w.cell? ⟨c.1, 0, none⟩ = some c.2) : ∃ p : Pin w X cs, w.drew = p.val :=
  ⟨⟨w.drew, same_below (bdrew1 (brefl w)), fun c hc => by simpa using h c hc⟩, rfl⟩
theorem pin_of {w W : World} {X : List Nat} {cs : List (Nat × Value)} (h : Same w X W) (hp : ∀ c, c ∈ cs → W.cell? ⟨c.1, 0, none⟩ = some c.2) : ∃ p : Pin w X cs, W = p.val := ⟨⟨W, h, hp⟩, rfl⟩
theorem pinC1 {w : World} {X : List Nat} {g : Nat} {v : Value} (p : Pin w X [(g, v)]) : p.val.cell? ⟨g, 0, none⟩ = some v := p.pin (g, v) (by simp)
theorem pinC2a {w : World} {X : List Nat} {g h : Nat} {v u : Value} (p : Pin w X [(g, v), (h, u)]) : p.val.cell? ⟨g, 0, none⟩ = some v := p.pin (g, v) (by simp)
theorem pinC2b {w : World} {X : List Nat} {g h : Nat} {v u : Value} (p : Pin w X [(g, v), (h, u)]) : p.val.cell? ⟨h, 0, none⟩ = some u := p.pin (h, u) (by simp)
end Go.Proofs.Ytfgkmgabldjpaaa
