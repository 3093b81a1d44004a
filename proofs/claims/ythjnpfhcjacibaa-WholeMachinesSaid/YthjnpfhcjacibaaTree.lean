
/- As Ord, where two operations that do more than look may come next, in either order: both are walked. And classes of worlds in which some cells hold known values. No condition of its own. -/
import Derived.Test.YthjnpfhcjacibaaOrd
namespace Go.Proofs.Ythjnpfhcjacibaa
open Go.RowKit

inductive Tree where
  | nil
  | step (i : Nat) (r : Tree)
  | two (i : Nat) (r : Tree) (j : Nat) (s : Tree)
  | narrow (r : Tree)
def Tree.deep : Tree → Nat
  | .nil => 0
  | .step _ r => r.deep + 1
  | .two _ r _ _ => r.deep + 1
  | .narrow r => r.deep

section
variable {P : Program} {ops : Array Oper} {Q : Exit → Act → World → Prop} {S : World → Prop}

def wpTree (P : Program) (ops : Array Oper) (Q : Exit → Act → World → Prop) : (World → Prop) → Tree → Act → World → Prop
  | _, .nil, a, w => Q .normal a w
  | S, .step i r, a, w => match ops[i]? with
    | none => False
    | some o =>
      if Region.wanted o (yielded ops a.tmps) = true then
        (if quietOp o.op = true then ∃ v, (∀ w', S w' → (execOp a.eval o).run P w' = .ok (.value v) w') ∧ wpTree P ops Q S r (a.put o.dst v) w
         else o.wp P a w (fun a' w' => S w' ∧ wpTree P ops Q S r a' w') Q)
      else wpTree P ops Q S r (a.put o.dst undef) w
  | S, .two i r j s, a, w => match ops[i]?, ops[j]? with
    | some o, some p =>
      Region.wanted o (yielded ops a.tmps) = true ∧ Region.wanted p (yielded ops a.tmps) = true ∧
        o.wp P a w (fun a' w' => S w' ∧ wpTree P ops Q S r a' w') Q ∧ p.wp P a w (fun a' w' => S w' ∧ wpTree P ops Q S s a' w') Q
    | _, _ => False
  | S, .narrow r, a, w => ∃ S' : World → Prop, (∀ w, S' w → S w) ∧ S' w ∧ wpTree P ops Q S' r a w

def treeB (ops : Array Oper) : Tree → Array Bool → Bool
  | .nil, listed => (Region.ready .any ops listed).isEmpty
  | .step i r, listed => (match ops[i]? with
    | some o => if quietOp o.op then (Region.ready .any ops listed).contains i && Region.free .any ops listed i else decide (Region.ready .any ops listed = [i])
    | none => false) && treeB ops r (listed.setIfInBounds i true)
  | .narrow r, listed => treeB ops r listed
  | .two i r j s, listed => decide (Region.ready .any ops listed = [i, j]) && decide (r.deep = s.deep) && treeB ops r (listed.setIfInBounds i true) && treeB ops s (listed.setIfInBounds j true)

theorem wpAnyH_class {md : Region.Mode} {S S' : World → Prop} (hSS : ∀ w, S' w → S w) : ∀ (n : Nat) (listed : Array Bool) (a : Act) (w : World), wpAnyH P md ops Q S' n listed a w → wpAnyH P md ops Q S n listed a w
  | 0, _, _, _, h => h
  | n + 1, _, _, _, h => ⟨h.1, fun i hi => wpOp_mono (fun a' w' g => ⟨hSS _ g.1, wpAnyH_class hSS n _ a' w' g.2⟩) (h.2 i hi)⟩
theorem wpAnyH_of_tree (hs : Region.noSelect ops = true) (hQ : ∀ (c : List PanicEntry) (a : Act) (d : Option Tmp) (v : Value) (w : World), Q (.panic c) (a.put d v) w → Q (.panic c) a w) :
    ∀ (t : Tree) (S : World → Prop) (listed : Array Bool) (a : Act) (w : World), treeB ops t listed = true → S w → wpTree P ops Q S t a w → wpAnyH P .any ops Q S t.deep listed a w
  | .nil, S, listed, a, w, hB, _, h => ⟨by simpa [treeB] using hB, h⟩
  | .narrow r, S, listed, a, w, hB, hS, h => by
    simp only [wpTree] at h
    obtain ⟨S', h1, h2, h3⟩ := h
    exact wpAnyH_class h1 _ _ _ _ (wpAnyH_of_tree hs hQ r S' listed a w (by simpa [treeB] using hB) h2 h3)
  | .step i r, S, listed, a, w, hB, hS, h => by
    simp only [treeB, Bool.and_eq_true] at hB
    obtain ⟨hB1, hB2⟩ := hB
    simp only [wpTree] at h
    cases ho : ops[i]? with
    | none => rw [ho] at h; exact h.elim
    | some o =>
      rw [ho] at h hB1
      simp only at h hB1
      by_cases hq : quietOp o.op = true
      · rw [if_pos hq] at hB1
        simp only [Bool.and_eq_true] at hB1
        have hready : i ∈ Region.ready .any ops listed := by simpa using hB1.1
        by_cases hw : Region.wanted o (yielded ops a.tmps) = true
        · rw [if_pos hw, if_pos hq] at h
          obtain ⟨v, hv, h'⟩ := h
          exact wpAnyH_first ho (Region.noSelect_spec hs) (fun c a w => hQ c a _ _ w) r.deep listed a w (Region.free_spec ho hB1.2) hready (.inl ⟨hw, hv⟩) hS (wpAnyH_of_tree hs hQ r S _ _ _ hB2 hS h')
        · rw [if_neg hw] at h
          exact wpAnyH_first ho (Region.noSelect_spec hs) (fun c a w => hQ c a _ _ w) r.deep listed a w (Region.free_spec ho hB1.2) hready (.inr ⟨by simpa using hw, rfl⟩) hS (wpAnyH_of_tree hs hQ r S _ _ _ hB2 hS h)
      · rw [if_neg hq] at hB1
        have hready : Region.ready .any ops listed = [i] := by simpa using hB1
        refine wpAnyH_all hready (by simp) fun j hj => ?_
        obtain rfl : j = i := by simpa using hj
        by_cases hw : Region.wanted o (yielded ops a.tmps) = true
        · rw [if_pos hw, if_neg hq] at h
          refine wpOp_run ho hw ?_
          exact Oper.wp_mono (fun a' w' g => ⟨g.1, wpAnyH_of_tree hs hQ r S _ _ _ hB2 g.1 g.2⟩) h
        · rw [if_neg hw] at h
          exact wpOp_skip ho hw ⟨hS, wpAnyH_of_tree hs hQ r S _ _ _ hB2 hS h⟩
  | .two i r j s, S, listed, a, w, hB, hS, h => by
    simp only [treeB, Bool.and_eq_true, decide_eq_true_eq] at hB
    obtain ⟨⟨⟨hready, hd⟩, hB1⟩, hB2⟩ := hB
    simp only [wpTree] at h
    cases ho : ops[i]? with
    | none => rw [ho] at h; exact h.elim
    | some o =>
      cases hp : ops[j]? with
      | none => rw [ho, hp] at h; exact h.elim
      | some p =>
        rw [ho, hp] at h
        obtain ⟨hw1, hw2, h1, h2⟩ := h
        refine wpAnyH_all hready (by simp) fun k hk => ?_
        have hk' : k = i ∨ k = j := by simpa using hk
        rcases hk' with rfl | rfl
        · refine wpOp_run ho hw1 ?_
          exact Oper.wp_mono (fun a' w' g => ⟨g.1, wpAnyH_of_tree hs hQ r S _ _ _ hB1 g.1 g.2⟩) h1
        · refine wpOp_run hp hw2 ?_
          have := Oper.wp_mono (fun a' w' g => (⟨g.1, wpAnyH_of_tree hs hQ s S _ _ _ hB2 g.1 g.2⟩ : S w' ∧ _)) h2
          rw [← hd] at this
          exact this

theorem wp_region_tree {id : Nat} {a : Act} {w : World} {l : List Oper} (t : Tree) (hm : P.follows .mixedOrders = true) (hs : Region.noSelect l.toArray = true) (hlen : decide (l.toArray.size = t.deep) = true)
    (hB : treeB l.toArray t (Array.replicate l.toArray.size false) = true)
    (hQ : ∀ (c : List PanicEntry) (a : Act) (d : Option Tmp) (v : Value) (w : World), Q (.panic c) (a.put d v) w → Q (.panic c) a w) (S : World → Prop) (hS : S w.drew)
    (h : wpTree P l.toArray Q S t a w.drew) : (Code.region id l.toArray true).wp P Q a w := by
  refine wp_region_held (S := S) hm ?_
  have := wpAnyH_of_tree hs hQ t S _ a w.drew hB hS h
  rw [of_decide_eq_true hlen]
  rw [of_decide_eq_true hlen] at this
  exact this

/-! The steps of a walk. -/
theorem tree_nil {a : Act} {w : World} (h : Q .normal a w) : wpTree P ops Q S .nil a w := h
theorem tree_quiet {i : Nat} {r : Tree} {a : Act} {w : World} {o : Oper} (ho : ops[i]? = some o) (hq : quietOp o.op = true) (hw : Region.wanted o (yielded ops a.tmps) = true)
    (h : ∀ K : Act → Prop, (∀ a, wpTree P ops Q S r a w → K a) → o.quiet P a S K) : wpTree P ops Q S (.step i r) a w := by
  obtain ⟨v, h1, h2⟩ := h _ (fun _ h => h)
  simp only [wpTree, ho]
  rw [if_pos hw, if_pos hq]
  exact ⟨v, fun w' hw' => quiet_value hq (h1 w' hw'), h2⟩
theorem tree_skip {i : Nat} {r : Tree} {a : Act} {w : World} {o : Oper} (ho : ops[i]? = some o) (hw : Region.wanted o (yielded ops a.tmps) = false) (h : wpTree P ops Q S r (a.put o.dst undef) w) : wpTree P ops Q S (.step i r) a w := by
  simp only [wpTree, ho]
  rw [if_neg (by rw [hw]; exact Bool.false_ne_true)]
  exact h
theorem tree_run {i : Nat} {r : Tree} {a : Act} {w : World} {o : Oper} (ho : ops[i]? = some o) (hq : quietOp o.op = false) (hw : Region.wanted o (yielded ops a.tmps) = true)
    (h : ∀ K : Act → World → Prop, (∀ a w, S w → wpTree P ops Q S r a w → K a w) → o.wp P a w K Q) : wpTree P ops Q S (.step i r) a w := by
  simp only [wpTree, ho]
  rw [if_pos hw, if_neg (by rw [hq]; exact Bool.false_ne_true)]
  exact h _ fun _ _ h1 h2 => ⟨h1, h2⟩
theorem tree_two {i j : Nat} {r s : Tree} {a : Act} {w : World} {o p : Oper} (ho : ops[i]? = some o) (hp : ops[j]? = some p) (hw : Region.wanted o (yielded ops a.tmps) = true) (hw2 : Region.wanted p (yielded ops a.tmps) = true)
    (h : ∀ K : Act → World → Prop, (∀ a w, S w → wpTree P ops Q S r a w → K a w) → o.wp P a w K Q) (h2 : ∀ K : Act → World → Prop, (∀ a w, S w → wpTree P ops Q S s a w → K a w) → p.wp P a w K Q) : wpTree P ops Q S (.two i r j s) a w := by
  simp only [wpTree, ho, hp]
  exact ⟨hw, hw2, h _ fun _ _ h1 h2 => ⟨h1, h2⟩, h2 _ fun _ _ h1 h2 => ⟨h1, h2⟩⟩
theorem tree_narrow {S' : World → Prop} {r : Tree} {a : Act} {w : World} (h1 : ∀ w, S' w → S w) (h2 : S' w) (h : wpTree P ops Q S' r a w) : wpTree P ops Q S (.narrow r) a w := by
  simp only [wpTree]
  exact ⟨S', h1, h2, h⟩
/-- The class of worlds moves on: from here it is what stays as it is now, but for the blocks of a list. -/
theorem tree_move {W W' : World} {X : List Nat} {r : Tree} {a : Act} (h : Same W X W')
    (k : (∀ (p : Wld W' X) (b o : Nat), p.val.cell? ⟨b, o, none⟩ = if b < W'.heap.size ∧ b ∉ X then W'.cell? ⟨b, o, none⟩ else opqC p.val b o) → wpTree P ops Q (fun w => ∃ p : Wld W' X, w = p.val) r a W') : wpTree P ops Q (fun w => ∃ p : Wld W X, w = p.val) (.narrow r) a W' := by
  refine tree_narrow ?_ ⟨⟨W', ⟨Nat.le_refl _, fun _ _ _ => rfl⟩⟩, rfl⟩ (k fun p b o => ?_)
  · rintro w ⟨p, rfl⟩
    exact ⟨⟨p.val, ⟨Nat.le_trans h.size p.is.size, fun k hk hX => (p.is.block k (Nat.lt_of_lt_of_le hk h.size) hX).trans (h.block k hk hX)⟩⟩, rfl⟩
  · split
    · rename_i hb; exact World.cell?_of_block (p.is.block b hb.1 hb.2)
    · rfl
/-- Likewise behind a new block that is stored into later. -/
theorem tree_move_alloc {W W' : World} {X : List Nat} {ob : Obj} {r : Tree} {a : Act} (h : Same W X (W'.alloc ob)) (hx : W.heap.size ≤ W'.heap.size)
    (k : (∀ (p : Wld (W'.alloc ob) (W'.heap.size :: X)) (b o : Nat), p.val.cell? ⟨b, o, none⟩ = if b < (W'.alloc ob).heap.size ∧ b ∉ W'.heap.size :: X then (W'.alloc ob).cell? ⟨b, o, none⟩ else opqC p.val b o) → wpTree P ops Q (fun w => ∃ p : Wld (W'.alloc ob) (W'.heap.size :: X), w = p.val) r a (W'.alloc ob)) : wpTree P ops Q (fun w => ∃ p : Wld W X, w = p.val) (.narrow r) a (W'.alloc ob) := by
  refine tree_narrow ?_ ⟨⟨W'.alloc ob, ⟨Nat.le_refl _, fun _ _ _ => rfl⟩⟩, rfl⟩ (k fun p b o => ?_)
  · rintro w ⟨p, rfl⟩
    refine ⟨⟨p.val, ⟨Nat.le_trans h.size p.is.size, fun k hk hX => (p.is.block k (Nat.lt_of_lt_of_le hk h.size) ?_).trans (h.block k hk hX)⟩⟩, rfl⟩
    intro hm
    rcases List.mem_cons.1 hm with rfl | hm
    · omega
    · exact hX hm
  · split
    · rename_i hb; exact World.cell?_of_block (p.is.block b hb.1 hb.2)
    · rfl
theorem same_realloc {w : World} {X : List Nat} {o o' : Obj} (h : w.heap.size ∈ X) : Same (w.alloc o) X (w.alloc o') :=
  ⟨by simp, fun k hk hX => by
    show (w.heap.push o')[k]? = (w.heap.push o)[k]?
    rw [Array.getElem?_push, Array.getElem?_push]
    split
    · rename_i he; subst he; exact absurd h hX
    · rfl⟩
theorem tree_move_alloc_drew {W W' : World} {X : List Nat} {ob : Obj} {r : Tree} {a : Act} (h : Same W X (W'.alloc ob).drew) (hx : W.heap.size ≤ W'.heap.size)
    (k : (∀ (p : Wld (W'.alloc ob).drew (W'.heap.size :: X)) (b o : Nat), p.val.cell? ⟨b, o, none⟩ = if b < (W'.alloc ob).heap.size ∧ b ∉ W'.heap.size :: X then (W'.alloc ob).cell? ⟨b, o, none⟩ else opqC p.val b o) → wpTree P ops Q (fun w => ∃ p : Wld (W'.alloc ob).drew (W'.heap.size :: X), w = p.val) r a (W'.alloc ob).drew) : wpTree P ops Q (fun w => ∃ p : Wld W X, w = p.val) (.narrow r) a (W'.alloc ob).drew := by
  refine tree_narrow ?_ ⟨⟨(W'.alloc ob).drew, ⟨Nat.le_refl _, fun _ _ _ => rfl⟩⟩, rfl⟩ (k fun p b o => ?_)
  · rintro w ⟨p, rfl⟩
    refine ⟨⟨p.val, ⟨Nat.le_trans h.size p.is.size, fun k hk hX => (p.is.block k (Nat.lt_of_lt_of_le hk h.size) ?_).trans (h.block k hk hX)⟩⟩, rfl⟩
    intro hm
    rcases List.mem_cons.1 hm with rfl | hm
    · omega
    · exact hX hm
  · split
    · rename_i hb; exact World.cell?_of_block (p.is.block b hb.1 hb.2)
    · rfl
end

attribute [irreducible] wpTree
/-- What several orders come to where the address of a new block hangs on the order (and so do the values of some slots, of which nothing is said). -/
def fill (x : Nat → Value) : List Nat → Array Value → Array Value
  | [], us => us
  | j :: js, us => fill x js (us.setIfInBounds j (x j))
def blank : List Nat → Array Value → Array Value
  | [], us => us
  | j :: js, us => blank js (us.setIfInBounds j undef)
theorem fill_get (x : Nat → Value) : ∀ (js : List Nat) (us : Array Value) (k : Nat), (fill x js us)[k]? = if k ∈ js ∧ k < us.size then some (x k) else us[k]?
  | [], us, k => by simp [fill]
  | j :: js, us, k => by
    rw [fill, fill_get x js]
    simp only [Array.size_setIfInBounds, List.mem_cons, Array.getElem?_setIfInBounds]
    by_cases h1 : k ∈ js
    · by_cases h2 : k < us.size
      · simp [h1, h2]
      · simp only [h1, h2, and_false, or_true, if_false]
        split
        · rename_i h; subst h; simp [h2]
        · rfl
    · by_cases h3 : j = k
      · subst h3; by_cases h2 : j < us.size <;> simp [h1, h2]
      · simp [h1, h3, Ne.symm h3]
theorem blank_get : ∀ (js : List Nat) (us : Array Value) (k : Nat), (blank js us)[k]? = if k ∈ js ∧ k < us.size then some undef else us[k]?
  | [], us, k => by simp [blank]
  | j :: js, us, k => by
    rw [blank, blank_get js]
    simp only [Array.size_setIfInBounds, List.mem_cons, Array.getElem?_setIfInBounds]
    by_cases h1 : k ∈ js
    · by_cases h2 : k < us.size
      · simp [h1, h2]
      · simp only [h1, h2, and_false, or_true, if_false]
        split
        · rename_i h; subst h; simp [h2]
        · rfl
    · by_cases h3 : j = k
      · subst h3; by_cases h2 : j < us.size <;> simp [h1, h2]
      · simp [h1, h3, Ne.symm h3]
theorem blank_size : ∀ (js : List Nat) (us : Array Value), (blank js us).size = us.size
  | [], us => rfl
  | j :: js, us => by rw [blank, blank_size js]; simp
theorem leaf_any {Q : Exit → Act → World → Prop} {ts us : Array Value} {ds : List Deferred} {W : World} (i : Nat) (js : List Nat) (P : Nat → World → Prop) (g : Nat) (hg : ts[i]? = some (.pointer (some ⟨g, 0, none⟩))) (hus : blank (i :: js) ts = us)
    (hfin : ∀ g' (x : Nat → Value) W', P g' W' → Q .normal ⟨(fill x js us).setIfInBounds i (.pointer (some ⟨g', 0, none⟩)), ds⟩ W') (hP : P g W) : Q .normal ⟨ts, ds⟩ W := by
  have h := hfin g (fun j => ts.getD j undef) W hP
  subst hus
  have e : (fill (fun j => ts.getD j undef) js (blank (i :: js) ts)).setIfInBounds i (.pointer (some ⟨g, 0, none⟩)) = ts := by
    obtain ⟨hi, he⟩ := Array.getElem?_eq_some_iff.1 hg
    apply Array.ext_getElem?
    intro k
    have hsz : (fill (fun j => ts.getD j undef) js (blank (i :: js) ts)).size = ts.size := by
      have : ∀ (js : List Nat) (us : Array Value) (x : Nat → Value), (fill x js us).size = us.size := by
        intro js
        induction js with
        | nil => intro us x; rfl
        | cons j js ih => intro us x; rw [fill, ih]; simp
      rw [this, blank_size]
    rw [Array.getElem?_setIfInBounds]
    split
    · rename_i hk; subst hk; rw [if_pos (by rw [hsz]; exact hi), hg]
    · rename_i hk
      rw [fill_get, blank_size]
      split
      · rename_i h2
        simp only [Array.getD_eq_getD_getElem?]
        rw [Array.getElem?_eq_getElem h2.2]; rfl
      · rename_i h2
        rw [blank_get, if_neg]
        rintro ⟨h3, h4⟩
        rcases List.mem_cons.1 h3 with h3 | h3
        · exact hk h3.symm
        · exact h2 ⟨h3, h4⟩
  rw [e] at h
  exact h
/-- What several ways come to, proved once. -/
theorem cutP {P : Program} {Q : Exit → Act → World → Prop} {a : Act} {w : World} {cd : Code} {R : Prop} (h : (Unit → R) → cd.wp P Q a w) (p : R) : cd.wp P Q a w := h fun _ => p

theorem same_drew {w W : World} {X : List Nat} (h : Same w X W) : Same w X W.drew := same_then h (bdrew1 (brefl W))
theorem bdrew1q {B : Nat} {w W : World} (h : Below B w W) : Below B w W.drew := h.drew
/-! A class of worlds: below a block's number all is as it was. -/
structure BelW (B : Nat) (w : World) where
  val : World
  is : Below B w val
theorem bel_start (B : Nat) (w : World) : ∃ p : BelW B w, w.drew = p.val := ⟨⟨w.drew, (Below.refl B w).drew⟩, rfl⟩
theorem bel_of {B : Nat} {w W : World} (h : Below B w W) : ∃ p : BelW B w, W = p.val := ⟨⟨W, h⟩, rfl⟩
instance (B : Nat) (w : World) : Nonempty (BelW B w) := ⟨⟨w, Below.refl _ _⟩⟩
theorem belC {B : Nat} {w : World} (p : BelW B w) (b o : Nat) : p.val.cell? ⟨b, o, none⟩ = if b < B then w.cell? ⟨b, o, none⟩ else opqC p.val b o := by
  split
  · rename_i h; exact p.is.cell (p := ⟨b, o, none⟩) h
  · rfl
/-! A class of worlds in which some cells hold known values. -/
structure Pin (w : World) (X : List Nat) (cs : List (Nat × Value)) where
  val : World
  is : Same w X val
  pin : ∀ c, c ∈ cs → val.cell? ⟨c.1, 0, none⟩ = some c.2
theorem pin_start {w : World} (X : List Nat) {cs : List (Nat × Value)} (h : ∀ c, c ∈ cs → w.cell? ⟨c.1, 0, none⟩ = some c.2) : ∃ p : Pin w X cs, w.drew = p.val :=
  ⟨⟨w.drew, same_below (bdrew1 (brefl w)), fun c hc => by simpa using h c hc⟩, rfl⟩
theorem pin_of {w W : World} {X : List Nat} {cs : List (Nat × Value)} (h : Same w X W) (hp : ∀ c, c ∈ cs → W.cell? ⟨c.1, 0, none⟩ = some c.2) : ∃ p : Pin w X cs, W = p.val := ⟨⟨W, h, hp⟩, rfl⟩
theorem pinC1 {w : World} {X : List Nat} {g : Nat} {v : Value} (p : Pin w X [(g, v)]) : p.val.cell? ⟨g, 0, none⟩ = some v := p.pin (g, v) (by simp)
theorem pinC2a {w : World} {X : List Nat} {g h : Nat} {v u : Value} (p : Pin w X [(g, v), (h, u)]) : p.val.cell? ⟨g, 0, none⟩ = some v := p.pin (g, v) (by simp)
theorem pinC2b {w : World} {X : List Nat} {g h : Nat} {v u : Value} (p : Pin w X [(g, v), (h, u)]) : p.val.cell? ⟨h, 0, none⟩ = some u := p.pin (h, u) (by simp)
end Go.Proofs.Ythjnpfhcjacibaa
