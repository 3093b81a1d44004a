/- Joined from: Last KeptE VRow VTab VOrd VOrdF VSpk GBase. -/
import Derived.Test.YthjnpfhcjacibaaDoorJ01
import Derived.Laws.OwnMore
import Derived.ArgAppend
import Derived.Lib.OthersKept
import Derived.Laws.CopyRow
import Derived.Laws.CopyOwn
import Derived.Lib.AppendZerosOnto
import Derived.Deep.AppendSrc
import Derived.Lib.Overlaps
import Derived.Lib.JoinLaws
section

/- As Tree, where the last operation (one that waits for all others) may leave the class of worlds: what it stores may have been read ahead of it. No condition of its own. -/
namespace Go.Proofs.YthjnpfhcjacibaaDoor
open Go.RowKit

section
variable {P : Program} {ops : Array Oper} {Q : Exit → Act → World → Prop} {S : World → Prop} {md : Region.Mode} {z : Nat}

/-- Whatever order comes, the class is kept behind every operation but number z. -/
def wpBut (P : Program) (md : Region.Mode) (ops : Array Oper) (Q : Exit → Act → World → Prop) (z : Nat) (S : World → Prop) : Nat → Array Bool → Act → World → Prop
  | 0, L, a, w => Region.ready md ops L = [] ∧ Q .normal a w
  | n + 1, L, a, w => (Region.ready md ops L = [] → Q .normal a w) ∧ ∀ i ∈ Region.ready md ops L, wpOp P ops Q i (fun b v => (i = z ∨ S v) ∧ wpBut P md ops Q z S n (L.setIfInBounds i true) b v) a w
theorem wpAny_of_but : ∀ (n : Nat) (L : Array Bool) (a : Act) (w : World), wpBut P md ops Q z S n L a w → wpAny P md ops Q n L a w
  | 0, _, _, _, h => h
  | n + 1, _, _, _, h => ⟨h.1, fun i hi => wpOp_mono (fun b v g => wpAny_of_but n _ b v g.2) (h.2 i hi)⟩
theorem wpBut_class {S' : World → Prop} (hSS : ∀ w, S' w → S w) : ∀ (n : Nat) (L : Array Bool) (a : Act) (w : World), wpBut P md ops Q z S' n L a w → wpBut P md ops Q z S n L a w
  | 0, _, _, _, h => h
  | n + 1, _, _, _, h => ⟨h.1, fun i hi => wpOp_mono (fun b v g => ⟨g.1.imp id (hSS v), wpBut_class hSS n _ b v g.2⟩) (h.2 i hi)⟩
/-- Number z waits for number i itself. -/
def Dir (md : Region.Mode) (ops : Array Oper) (z i : Nat) : Prop := ∀ oz, ops[z]? = some oz → ∃ e ∈ oz.after, Region.binds md e = true ∧ e.on = i
/-- Number z waits for number i, itself or by another one, or two. -/
def Waits (md : Region.Mode) (ops : Array Oper) (z i : Nat) : Prop := Dir md ops z i ∨ (∃ k, k < ops.size ∧ Dir md ops z k ∧ Dir md ops k i) ∨ ∃ k m, k < ops.size ∧ m < ops.size ∧ Dir md ops z k ∧ Dir md ops k m ∧ Dir md ops m i
/-- Whatever has come, all that it waits for has come. -/
def Closed (md : Region.Mode) (ops : Array Oper) (L : Array Bool) : Prop := ∀ (j : Nat) (oj : Oper), ops[j]? = some oj → L.getD j false = true → ∀ e ∈ oj.after, Region.binds md e = true → L.getD e.on false = true
theorem Closed.put {L : Array Bool} {j : Nat} (hc : Closed md ops L) (hj : j ∈ Region.ready md ops L) : Closed md ops (L.setIfInBounds j true) := fun k ok hk hL e he hb => by
  obtain ⟨_, oj, ho, hall⟩ := mem_ready.1 hj
  by_cases hjk : j = k
  · subst hjk
    rw [ho] at hk; cases hk
    exact getD_set_true (hall e he hb)
  · rw [getD_set_ne false hjk] at hL
    exact getD_set_true (hc k ok hk hL e he hb)
theorem closed_start (n : Nat) : Closed md ops (Array.replicate n false) := fun j oj _ h => by
  simp only [Array.getD_eq_getD_getElem?, Array.getElem?_replicate] at h
  split at h <;> simp at h
theorem not_both {L : Array Bool} {i : Nat} (h0 : L.getD i true = false) (h1 : L.getD i false = true) : False := by
  rcases Nat.lt_or_ge i L.size with g | g
  · simp [g] at h0 h1; rw [h0] at h1; cases h1
  · simp [Array.getElem?_eq_none g] at h1
theorem not_ready_of_waits {L : Array Bool} {i : Nat} (hc : Closed md ops L) (hw : Waits md ops z i) (hi : i ∈ Region.ready md ops L) : z ∉ Region.ready md ops L := fun hz => by
  obtain ⟨_, oz, ho, hall⟩ := mem_ready.1 hz
  rcases hw with hw | ⟨k, hk, h1, h2⟩ | ⟨k, m, hk, hm, h1, h2, h3⟩
  · obtain ⟨e, he, hb, rfl⟩ := hw oz ho
    exact not_both (mem_ready.1 hi).1 (hall e he hb)
  · obtain ⟨e, he, hb, rfl⟩ := h1 oz ho
    have hok := Array.getElem?_eq_getElem hk
    obtain ⟨e', he', hb', rfl⟩ := h2 _ hok
    exact not_both (mem_ready.1 hi).1 (hc _ _ hok (hall e he hb) e' he' hb')
  · obtain ⟨e, he, hb, rfl⟩ := h1 oz ho
    have hok := Array.getElem?_eq_getElem hk
    obtain ⟨e', he', hb', rfl⟩ := h2 _ hok
    have hom := Array.getElem?_eq_getElem hm
    obtain ⟨e2, he2, hb2, rfl⟩ := h3 _ hom
    exact not_both (mem_ready.1 hi).1 (hc _ _ hom (hc _ _ hok (hall e he hb) e' he' hb') e2 he2 hb2)
/-- What looks may be taken first. -/
theorem wpBut_first {i : Nat} {oi : Oper} {v : Value} (hi : ops[i]? = some oi) (hs : Region.noSelect ops = true) (hQ : ∀ c a w, Q (.panic c) (a.put oi.dst v) w → Q (.panic c) a w) (hiz : i ≠ z) (hwz : Waits md ops z i) :
    ∀ (n : Nat) (L : Array Bool) (a : Act) (w : World), Closed md ops L →
      (∀ j oj, ops[j]? = some oj → j ≠ i → L.getD j true = false → (∀ e ∈ oj.after, Region.binds md e = true → e.on ≠ i) → oi.apart ops oj = true) →
      i ∈ Region.ready md ops L → YieldsIf P ops S oi v a → S w → wpBut P md ops Q z S n (L.setIfInBounds i true) (a.put oi.dst v) w → wpBut P md ops Q z S (n + 1) L a w
  | 0, L, a, w, _, _, hr, hy, hS, H => by
    refine ⟨fun h => (by rw [h] at hr; cases hr), fun j hj => ?_⟩
    by_cases hji : j = i
    · subst hji; exact hy.wpOp hi hS ⟨.inr hS, H⟩
    · have := ready_mono hj hji
      rw [H.1] at this; cases this
  | n + 1, L, a, w, hc, hfree, hr, hy, hS, H => by
    refine ⟨fun h => (by rw [h] at hr; cases hr), fun j hj => ?_⟩
    by_cases hji : j = i
    · subst hji; exact hy.wpOp hi hS ⟨.inr hS, H⟩
    have hjz : j ≠ z := fun h => not_ready_of_waits hc hwz hr (h ▸ hj)
    obtain ⟨hjL, oj, hoj, hall⟩ := mem_ready.1 hj
    have hno : ∀ e ∈ oj.after, Region.binds md e = true → e.on ≠ i := fun e he hb heq => by
      have h1 := hall e he hb
      have h0 := (mem_ready.1 hr).1
      rw [heq] at h1
      rcases Nat.lt_or_ge i L.size with g | g
      · simp [g] at h0 h1; rw [h0] at h1; cases h1
      · simp [Array.getElem?_eq_none g] at h1
    have key := wpOp_putIf hoj (hfree j oj hoj hji hjL hno) (fun cs b => Region.noSelect_spec hs i oi cs b hi) (fun cs b => Region.noSelect_spec hs j oj cs b hoj) hQ hy (H.2 j (ready_mono hj hji))
    refine wpOp_mono (fun b u g => ?_) key
    have hSu : S u := g.2.1.resolve_left hjz
    refine ⟨.inr hSu, wpBut_first hi hs hQ hiz hwz n _ b u (hc.put hj) (fun k ok hk hki hkL hkn => hfree k ok hk hki ?_ hkn) (ready_mono hr (Ne.symm hji)) g.1 hSu ?_⟩
    · by_cases hjk : j = k
      · subst hjk; exact hjL
      · rw [getD_set_ne true hjk] at hkL; exact hkL
    · rw [Array.setIfInBounds_comm _ _ hji]
      exact g.2.2

def wpTreeZ (P : Program) (ops : Array Oper) (Q : Exit → Act → World → Prop) (z : Nat) : (World → Prop) → Tree → Act → World → Prop
  | _, .nil, a, w => Q .normal a w
  | S, .step i r, a, w => match ops[i]? with
    | none => False
    | some o =>
      if Region.wanted o (yielded ops a.tmps) = true then
        (if quietOp o.op = true then ∃ v, (∀ w', S w' → (execOp a.eval o).run P w' = .ok (.value v) w') ∧ wpTreeZ P ops Q z S r (a.put o.dst v) w
         else o.wp P a w (fun a' w' => (i = z ∨ S w') ∧ wpTreeZ P ops Q z S r a' w') Q)
      else wpTreeZ P ops Q z S r (a.put o.dst undef) w
  | _, .two _ _ _ _, _, _ => False
  | S, .narrow r, a, w => ∃ S' : World → Prop, (∀ w, S' w → S w) ∧ S' w ∧ wpTreeZ P ops Q z S' r a w
def dirB (ops : Array Oper) (z i : Nat) : Bool := match ops[z]? with
  | some oz => oz.after.any fun e => Region.binds .any e && e.on == i
  | none => false
theorem dir_of {ops : Array Oper} {z i : Nat} (h : dirB ops z i = true) : Dir .any ops z i := fun oz ho => by
  unfold dirB at h
  rw [ho] at h
  obtain ⟨k, hk, hb⟩ := Array.any_eq_true.1 h
  simp only [Bool.and_eq_true, beq_iff_eq] at hb
  exact ⟨oz.after[k], Array.getElem_mem hk, hb.1, hb.2⟩
/-- Number z comes at the very end of the chain, looks at nothing, and waits for all others. -/
def lastB (ops : Array Oper) (z : Nat) : Bool := match ops[z]? with
  | some oz => !quietOp oz.op && (List.range ops.size).all fun i => i == z || dirB ops z i || ((List.range ops.size).any fun k => dirB ops z k && dirB ops k i) || (List.range ops.size).any fun k => dirB ops z k && (List.range ops.size).any fun m => dirB ops k m && dirB ops m i
  | none => false
def endB (z : Nat) : Tree → Bool
  | .nil => true
  | .step i r => (i != z || (match r with | .nil => true | _ => false)) && endB z r
  | .two _ _ _ _ => false
  | .narrow r => endB z r
theorem wpBut_of_tree (hs : Region.noSelect ops = true) (hz : lastB ops z = true) (hQ : ∀ (c : List PanicEntry) (a : Act) (d : Option Tmp) (v : Value) (w : World), Q (.panic c) (a.put d v) w → Q (.panic c) a w) :
    ∀ (t : Tree) (S : World → Prop) (L : Array Bool) (a : Act) (w : World), Closed .any ops L → treeB ops t L = true → endB z t = true → S w → wpTreeZ P ops Q z S t a w → wpBut P .any ops Q z S t.deep L a w
  | .nil, S, L, a, w, _, hB, _, _, h => ⟨by simpa [treeB] using hB, h⟩
  | .narrow r, S, L, a, w, hc, hB, hE, hS, h => by
    simp only [wpTreeZ] at h
    obtain ⟨S', h1, h2, h3⟩ := h
    exact wpBut_class h1 _ _ _ _ (wpBut_of_tree hs hz hQ r S' L a w hc (by simpa [treeB] using hB) (by simpa [endB] using hE) h2 h3)
  | .two _ _ _ _, S, L, a, w, _, _, _, _, h => by simp only [wpTreeZ] at h
  | .step i r, S, L, a, w, hc, hB, hE, hS, h => by
    simp only [treeB, Bool.and_eq_true] at hB
    obtain ⟨hB1, hB2⟩ := hB
    simp only [endB, Bool.and_eq_true] at hE
    obtain ⟨hE1, hE2⟩ := hE
    simp only [wpTreeZ] at h
    cases ho : ops[i]? with
    | none => rw [ho] at h; exact h.elim
    | some o =>
      rw [ho] at h hB1
      simp only at h hB1
      have hiL : i < ops.size := (Array.getElem?_eq_some_iff.1 ho).1
      by_cases hq : quietOp o.op = true
      · rw [if_pos hq] at hB1
        simp only [Bool.and_eq_true] at hB1
        have hready : i ∈ Region.ready .any ops L := by simpa using hB1.1
        have hzz : i ≠ z ∧ Waits .any ops z i := by
          unfold lastB at hz
          cases hoz : ops[z]? with
          | none => rw [hoz] at hz; cases hz
          | some oz =>
            rw [hoz] at hz
            simp only [Bool.and_eq_true, Bool.not_eq_true', List.all_eq_true, List.mem_range, Bool.or_eq_true, beq_iff_eq] at hz
            have hne : i ≠ z := fun h => by
              subst h
              rw [ho] at hoz; cases hoz
              rw [hq] at hz; cases hz.1
            refine ⟨hne, ?_⟩
            rcases hz.2 i hiL with ((h | h) | h) | h
            · exact absurd h hne
            · exact .inl (dir_of h)
            · obtain ⟨k, hk, hb⟩ := List.any_eq_true.1 h
              simp only [Bool.and_eq_true] at hb
              exact .inr (.inl ⟨k, List.mem_range.1 hk, dir_of hb.1, dir_of hb.2⟩)
            · obtain ⟨k, hk, hb⟩ := List.any_eq_true.1 h
              simp only [Bool.and_eq_true] at hb
              obtain ⟨m, hm, hb2⟩ := List.any_eq_true.1 hb.2
              simp only [Bool.and_eq_true] at hb2
              exact .inr (.inr ⟨k, m, List.mem_range.1 hk, List.mem_range.1 hm, dir_of hb.1, dir_of hb2.1, dir_of hb2.2⟩)
        by_cases hw : Region.wanted o (yielded ops a.tmps) = true
        · rw [if_pos hw, if_pos hq] at h
          obtain ⟨v, hv, h'⟩ := h
          exact wpBut_first ho hs (fun c a w => hQ c a _ _ w) hzz.1 hzz.2 r.deep L a w hc (Region.free_spec ho hB1.2) hready (.inl ⟨hw, hv⟩) hS (wpBut_of_tree hs hz hQ r S _ _ _ (hc.put hready) hB2 hE2 hS h')
        · rw [if_neg hw] at h
          exact wpBut_first ho hs (fun c a w => hQ c a _ _ w) hzz.1 hzz.2 r.deep L a w hc (Region.free_spec ho hB1.2) hready (.inr ⟨by simpa using hw, rfl⟩) hS (wpBut_of_tree hs hz hQ r S _ _ _ (hc.put hready) hB2 hE2 hS h)
      · rw [if_neg hq] at hB1
        have hready : Region.ready .any ops L = [i] := by simpa using hB1
        refine ⟨fun h0 => (by rw [h0] at hready; cases hready), fun j hj => ?_⟩
        obtain rfl : j = i := by rw [hready] at hj; simpa using hj
        have hgo : ∀ b u, (j = z ∨ S u) → wpTreeZ P ops Q z S r b u → wpBut P .any ops Q z S r.deep (L.setIfInBounds j true) b u := fun b u hS' ht => by
          rcases hS' with hjz | hSu
          · subst hjz
            match r, hE1, hB2, ht with
            | .nil, _, hB2, ht => exact ⟨by simpa [treeB] using hB2, ht⟩
            | .step _ _, hE1, _, _ => simp at hE1
            | .two _ _ _ _, hE1, _, _ => simp at hE1
            | .narrow _, hE1, _, _ => simp at hE1
          · exact wpBut_of_tree hs hz hQ r S _ _ _ (hc.put hj) hB2 hE2 hSu ht
        by_cases hw : Region.wanted o (yielded ops a.tmps) = true
        · rw [if_pos hw, if_neg hq] at h
          refine wpOp_run ho hw ?_
          exact Oper.wp_mono (fun a' w' g => ⟨g.1, hgo a' w' g.1 g.2⟩) h
        · rw [if_neg hw] at h
          exact wpOp_skip ho hw ⟨.inr hS, hgo _ _ (.inr hS) h⟩

theorem wp_region_last {id : Nat} {a : Act} {w : World} {l : List Oper} (t : Tree) (z : Nat) (hm : P.follows .mixedOrders = true) (hs : Region.noSelect l.toArray = true) (hlen : decide (l.toArray.size = t.deep) = true)
    (hB : treeB l.toArray t (Array.replicate l.toArray.size false) = true) (hz : (lastB l.toArray z && endB z t) = true)
    (hQ : ∀ (c : List PanicEntry) (a : Act) (d : Option Tmp) (v : Value) (w : World), Q (.panic c) (a.put d v) w → Q (.panic c) a w) (S : World → Prop) (hS : S w.drew)
    (h : wpTreeZ P l.toArray Q z S t a w.drew) : (Code.region id l.toArray true).wp P Q a w := by
  simp only [Bool.and_eq_true] at hz
  refine wp_region_any hm ?_
  have := wpAny_of_but _ _ _ _ (wpBut_of_tree hs hz.1 hQ t S _ a w.drew (closed_start _) hB hz.2 hS h)
  rw [of_decide_eq_true hlen]
  rw [of_decide_eq_true hlen] at this
  exact this
theorem z_nil {a : Act} {w : World} (h : Q .normal a w) : wpTreeZ P ops Q z S .nil a w := h
theorem z_quiet {i : Nat} {r : Tree} {a : Act} {w : World} {o : Oper} (ho : ops[i]? = some o) (hq : quietOp o.op = true) (hw : Region.wanted o (yielded ops a.tmps) = true)
    (h : ∀ K : Act → Prop, (∀ a, wpTreeZ P ops Q z S r a w → K a) → o.quiet P a S K) : wpTreeZ P ops Q z S (.step i r) a w := by
  obtain ⟨v, h1, h2⟩ := h _ (fun _ h => h)
  simp only [wpTreeZ, ho]
  rw [if_pos hw, if_pos hq]
  exact ⟨v, fun w' hw' => quiet_value hq (h1 w' hw'), h2⟩
theorem z_skip {i : Nat} {r : Tree} {a : Act} {w : World} {o : Oper} (ho : ops[i]? = some o) (hw : Region.wanted o (yielded ops a.tmps) = false) (h : wpTreeZ P ops Q z S r (a.put o.dst undef) w) : wpTreeZ P ops Q z S (.step i r) a w := by
  simp only [wpTreeZ, ho]
  rw [if_neg (by rw [hw]; exact Bool.false_ne_true)]
  exact h
theorem z_run {i : Nat} {r : Tree} {a : Act} {w : World} {o : Oper} (ho : ops[i]? = some o) (hq : quietOp o.op = false) (hw : Region.wanted o (yielded ops a.tmps) = true)
    (h : ∀ K : Act → World → Prop, (∀ a w, S w → wpTreeZ P ops Q z S r a w → K a w) → o.wp P a w K Q) : wpTreeZ P ops Q z S (.step i r) a w := by
  simp only [wpTreeZ, ho]
  rw [if_pos hw, if_neg (by rw [hq]; exact Bool.false_ne_true)]
  exact h _ fun _ _ h1 h2 => ⟨.inr h1, h2⟩
theorem z_last {i : Nat} {r : Tree} {a : Act} {w : World} {o : Oper} (ho : ops[i]? = some o) (hq : quietOp o.op = false) (hw : Region.wanted o (yielded ops a.tmps) = true) (hz : i = z)
    (h : ∀ K : Act → World → Prop, (∀ a w, wpTreeZ P ops Q z S r a w → K a w) → o.wp P a w K Q) : wpTreeZ P ops Q z S (.step i r) a w := by
  simp only [wpTreeZ, ho]
  rw [if_pos hw, if_neg (by rw [hq]; exact Bool.false_ne_true)]
  exact h _ fun _ _ h2 => ⟨.inl hz, h2⟩
theorem z_narrow {S' : World → Prop} {r : Tree} {a : Act} {w : World} (h1 : ∀ w, S' w → S w) (h2 : S' w) (h : wpTreeZ P ops Q z S' r a w) : wpTreeZ P ops Q z S (.narrow r) a w := by
  simp only [wpTreeZ]
  exact ⟨S', h1, h2, h⟩
theorem z_move {W W' : World} {X : List Nat} {r : Tree} {a : Act} (h : Same W X W')
    (k : (∀ (p : Wld W' X) (b o : Nat), p.val.cell? ⟨b, o, none⟩ = if b < W'.heap.size ∧ b ∉ X then W'.cell? ⟨b, o, none⟩ else opqC p.val b o) → wpTreeZ P ops Q z (fun w => ∃ p : Wld W' X, w = p.val) r a W') : wpTreeZ P ops Q z (fun w => ∃ p : Wld W X, w = p.val) (.narrow r) a W' := by
  refine z_narrow ?_ ⟨⟨W', ⟨Nat.le_refl _, fun _ _ _ => rfl⟩⟩, rfl⟩ (k fun p b o => ?_)
  · rintro w ⟨p, rfl⟩
    exact ⟨⟨p.val, ⟨Nat.le_trans h.size p.is.size, fun k hk hX => (p.is.block k (Nat.lt_of_lt_of_le hk h.size) hX).trans (h.block k hk hX)⟩⟩, rfl⟩
  · split
    · rename_i hb; exact World.cell?_of_block (p.is.block b hb.1 hb.2)
    · rfl
end
attribute [irreducible] wpTreeZ
end Go.Proofs.YthjnpfhcjacibaaDoor
end
section

/- Classes of worlds: all blocks that hold no elements of one type are as they were; all blocks that aren't a call's own. A cell of an own row. No condition of its own. -/
namespace Go.Proofs.YthjnpfhcjacibaaDoor
open Go.RowKit

def KeptE (e : TypeId) (w w' : World) : Prop := w.heap.size ≤ w'.heap.size ∧ ∀ (g : Nat) (cs : Array Value) (t : Nat) (fz : Nat × Nat), w.heap[g]? = some (.cells cs t fz) → t ≠ e → w'.heap[g]? = w.heap[g]?
theorem KeptE.refl (e : TypeId) (w : World) : KeptE e w w := ⟨Nat.le_refl _, fun _ _ _ _ _ _ => rfl⟩
theorem KeptE.trans {e : TypeId} {a b c : World} (h : KeptE e a b) (k : KeptE e b c) : KeptE e a c := ⟨Nat.le_trans h.1 k.1, fun g cs t fz hg ht => (k.2 g cs t fz ((h.2 g cs t fz hg ht).trans hg) ht).trans (h.2 g cs t fz hg ht)⟩
theorem KeptE.below {e : TypeId} {w w' : World} (h : Below w.heap.size w w') : KeptE e w w' := ⟨h.size, fun g _ _ _ hg _ => h.block g (Array.getElem?_eq_some_iff.1 hg).1⟩
/-- A row of the call's own isn't a block of another kind. -/
theorem own_neE {w : World} {base size n : Nat} {e : TypeId} {v : Value} {xs : List Value} (h : w.ownsRow base e size v n xs) {g : Nat} {cs : Array Value} {t : Nat} {fz : Nat × Nat} (hg : w.heap[g]? = some (.cells cs t fz)) (ht : t ≠ e) : some g ≠ v.ownBlock := by
  rcases h.2 with ⟨rfl, _⟩ | ⟨g', cap, cur, rfl, _, hh, _⟩
  · simp [Value.ownBlock]
  · simp only [Value.ownBlock, ne_eq, Option.some.injEq]
    rintro rfl
    rw [hg] at hh
    injection hh with hh
    injection hh with _ h2 _
    exact ht h2
theorem KeptE.grown {e : TypeId} {w w' : World} {base size n : Nat} {v : Value} {xs : List Value} (h : w.ownsRow base e size v n xs) (hg : w.grownBy w' v.ownBlock) : KeptE e w w' :=
  ⟨hg.size, fun g _ _ _ h1 ht => hg.block g (Array.getElem?_eq_some_iff.1 h1).1 (own_neE h h1 ht)⟩
theorem KeptE.cell {e : TypeId} {w w' : World} (h : KeptE e w w') {g : Nat} {cs : Array Value} {t : Nat} {fz : Nat × Nat} (hg : w.heap[g]? = some (.cells cs t fz)) (ht : t ≠ e) (o : Nat) : w'.cell? ⟨g, o, none⟩ = cs[o]? := by
  rw [World.cell?_of_block (w := w) (by exact h.2 g cs t fz hg ht)]
  simp [World.cell?, hg]
/-- A row of another kind stays owned. -/
theorem KeptE.owns {e : TypeId} {w w' : World} (h : KeptE e w w') {base size n : Nat} {e' : TypeId} {v : Value} {xs : List Value} (ho : w.ownsRow base e' size v n xs) (hne : e' ≠ e) : w'.ownsRow base e' size v n xs := by
  refine ⟨ho.1, ?_⟩
  rcases ho.2 with g | ⟨g, cap, cur, hv, hg, hh, r⟩
  · exact .inl g
  · exact .inr ⟨g, cap, cur, hv, hg, by rw [h.2 g _ _ _ hh hne]; exact hh, r⟩
structure KepE (e : TypeId) (W : World) where
  val : World
  is : KeptE e W val
instance (e : TypeId) (W : World) : Nonempty (KepE e W) := ⟨⟨W, KeptE.refl e W⟩⟩
theorem kepE_start (e : TypeId) (W : World) : ∃ p : KepE e W, W.drew = p.val := ⟨⟨W.drew, KeptE.below (bdrew1 (brefl W))⟩, rfl⟩
theorem kepE_of {e : TypeId} {W W' : World} (h : KeptE e W W') : ∃ p : KepE e W, W' = p.val := ⟨⟨W', h⟩, rfl⟩
/-- 'append' onto a slice of the call's own, as one operation. -/
theorem wpAppO {P : Program} {w : World} {o : Oper} {a : Act} {K : Act → World → Prop} {Q : Exit → Act → World → Prop} (s x : Operand) (t : TypeId)
    (ho : o.op = .call { callee := .builtin .append, args := #[s, x], argTypes := #[t, t] })
    (base : Nat) (e : TypeId) (z : Value) (size bytes : Nat) (ht : P.underlying t = some (.slice e)) (hi : (P.info? e).map (fun i => (i.zero, i.size, i.bytes)) = some (some z, size, bytes)) (hzs : z.cells.size = size) (hsz : 0 < size)
    (v : Value) (n : Nat) (xs : List Value) (hs : a.eval s = v) (hown : w.ownsRow base e size v n xs)
    (p : Addr) (m c : Nat) (news : List Value) (hx : a.eval x = .slice (some p) m c) (hl : news.length = m * size) (hnews : Has w (some p) news) (h1 : ∀ u ∈ news, u.oneCell' = true)
    (h63 : n + m ≤ maxLen) (hbytes : (n + m) * bytes ≤ 140737488355328) (hbase : base ≤ w.heap.size)
    (h' : ∀ a' c' w', w'.ownsRow base e size (.slice a' (n + m) c') (n + m) (xs ++ news) → n + m ≤ c' → c' ≤ maxLen → (a' = none → c' = 0) → Below base w w' → w.grownBy w' v.ownBlock → K (a.put o.dst (.slice a' (n + m) c')) w') : o.wp P a w K Q := by
  obtain ⟨i, hi, hz, hz1, hz2⟩ := info_parts hi
  refine wp_append_own w s x t ho base e i z size bytes ht hi hz hz1 hz2 hzs hsz v n xs hs hown p m c news hx hl (fun j u hu => ?_) h1 h63 hbytes hbase fun v' w' g1 g2 _ => ?_
  · obtain ⟨q, hq, hc⟩ := hnews j u hu
    cases hq
    exact hc
  · obtain ⟨a', c', rfl, k1, k2, k3⟩ := owns_slice g1
    exact h' a' c' w' g1 k1 k2 k3 ((Below.refl base w).grown g2 hbase fun k hk => (hown.lt k hk).1) g2
theorem heap_set_new {w0 w1 : World} {x v : Value} {t : TypeId} (h : Below (w0.alloc (.cells #[x] t)).heap.size (w0.alloc (.cells #[x] t)) w1) : (w1.setCell ⟨w0.heap.size, 0, none⟩ v).heap[w0.heap.size]? = some (.cells #[v] t (0, 0)) := by
  have h1 : w1.heap[w0.heap.size]? = some (.cells #[x] t (0, 0)) := (h.block w0.heap.size (by simp)).trans (by rw [heap_push, if_pos rfl])
  simp [World.setCell, Array.getElem?_modify, h1]
theorem heap_set_newd {w0 w1 : World} {x v : Value} {t : TypeId} (h : Below (w0.alloc (.cells #[x] t)).drew.heap.size (w0.alloc (.cells #[x] t)).drew w1) : (w1.setCell ⟨w0.heap.size, 0, none⟩ v).heap[w0.heap.size]? = some (.cells #[v] t (0, 0)) :=
  heap_set_new ((Below.refl _ _).drew.trans h)
theorem heap_new (w0 : World) (x : Value) (t : TypeId) : (w0.alloc (.cells #[x] t)).heap[w0.heap.size]? = some (.cells #[x] t (0, 0)) := by rw [heap_push, if_pos rfl]
theorem set_heap_at {w : World} {g o : Nat} {cs : Array Value} {t : TypeId} {fz : Nat × Nat} (v : Value) (h : w.heap[g]? = some (.cells cs t fz)) : (w.setCell ⟨g, o, none⟩ v).heap[g]? = some (.cells (cs.setIfInBounds o v) t fz) := by
  simp [World.setCell, Array.getElem?_modify, h]
theorem set_heap_other {w : World} {g k : Nat} {o : Nat} (v : Value) (h : k ≠ g) : (w.setCell ⟨g, o, none⟩ v).heap[k]? = w.heap[k]? := Below.heap_setCell _ _ _ _ h
theorem set_owns {w : World} {base e size n g o : Nat} {x : Value} {xs : List Value} (v : Value) (h : w.ownsRow base e size x n xs) (hne : some g ≠ x.ownBlock) : (w.setCell ⟨g, o, none⟩ v).ownsRow base e size x n xs :=
  ownsRow_setCell_other h (fun h => hne h.symm) v
theorem set_same {w W : World} {g o : Nat} (v : Value) (h : Same w [g] W) : Same w [g] (W.setCell ⟨g, o, none⟩ v) := same_set h (.inl (by simp)) v
theorem cell_of_heap {w : World} {g : Nat} {cs : Array Value} {t : Nat} {fz : Nat × Nat} (h : w.heap[g]? = some (.cells cs t fz)) (o : Nat) : w.cell? ⟨g, o, none⟩ = cs[o]? := by simp [World.cell?, h]
theorem froz_of_heap {w : World} {g : Nat} {cs : Array Value} {t : Nat} (h : w.heap[g]? = some (.cells cs t (0, 0))) (o : Nat) : w.frozen? ⟨g, o, none⟩ = false := by simp [World.frozen?, h]
/-- What a world built of new blocks, draws, stores and contracts' worlds leaves, by its own tactic. -/
theorem blw {w W : World} (h : Below w.heap.size w W := by repeat (first | with_reducible exact brefl _ | with_reducible assumption | (with_reducible refine bset ?_ (by first | (simp; done) | (simp; omega)) _) | with_reducible refine balloc ?_ _ | with_reducible refine bdrew ?_ _ | with_reducible refine bdrew1 ?_ | with_reducible refine bthen ?_ (by assumption) | with_reducible refine Below.trans ?_ (by assumption) | exact brefl _ | assumption | refine balloc ?_ _ | refine bdrew ?_ _ | refine bdrew1 ?_ | refine bthen ?_ (by assumption) | refine Below.trans ?_ (by assumption) | (refine bset ?_ (by first | (simp; done) | (simp; omega)) _))) : Below w.heap.size w W := h
theorem wld_ofA {w W : World} {X : List Nat} (h : Same w X W := by repeat (first | with_reducible exact same_below (brefl _) | with_reducible exact same_below (bdrew1 (brefl _)) | with_reducible assumption | with_reducible refine same_drew ?_ | (with_reducible refine same_set ?_ (by first | (left; simp; done) | (right; simp; done) | (right; simp; omega)) _) | with_reducible refine same_then ?_ (by assumption) | with_reducible refine same_alloc ?_ _ | exact same_below (brefl _) | exact same_realloc (by simp) | exact same_below (bdrew1 (brefl _)) | assumption | refine same_drew ?_ | refine same_then ?_ (by assumption) | refine same_alloc ?_ _ | (refine same_set ?_ (by first | (left; simp; done) | (right; simp; done) | (right; simp; omega)) _))) : ∃ p : Wld w X, W = p.val := wld_of h
theorem bel_ofA {B : Nat} {w W : World} (h : Below B w W := by repeat (first | exact Below.refl _ _ | assumption | refine bdrew1q ?_ | refine balloc ?_ _ | refine bthen ?_ (by assumption) | refine Below.trans ?_ (by assumption))) : ∃ p : BelW B w, W = p.val := bel_of h
def KeptO (own : Nat → Nat → Prop) (w w' : World) : Prop := w.heap.size ≤ w'.heap.size ∧ ∀ (g : Nat) (cs : Array Value) (t : Nat) (fz : Nat × Nat), w.heap[g]? = some (.cells cs t fz) → ¬ own g t → w'.heap[g]? = w.heap[g]?
theorem KeptO.refl (own : Nat → Nat → Prop) (w : World) : KeptO own w w := ⟨Nat.le_refl _, fun _ _ _ _ _ _ => rfl⟩
theorem KeptO.trans {own : Nat → Nat → Prop} {a b c : World} (h : KeptO own a b) (k : KeptO own b c) : KeptO own a c := ⟨Nat.le_trans h.1 k.1, fun g cs t fz hg ht => (k.2 g cs t fz ((h.2 g cs t fz hg ht).trans hg) ht).trans (h.2 g cs t fz hg ht)⟩
theorem KeptO.below {own : Nat → Nat → Prop} {w w' : World} (h : Below w.heap.size w w') : KeptO own w w' := ⟨h.size, fun g _ _ _ hg _ => h.block g (Array.getElem?_eq_some_iff.1 hg).1⟩
/-- A row of the call's own that grows: all else stays. -/
theorem KeptO.grown {own : Nat → Nat → Prop} {w w' : World} {base e size n : Nat} {v : Value} {xs : List Value} (h : w.ownsRow base e size v n xs) (hg : w.grownBy w' v.ownBlock) (ho : ∀ k, some k = v.ownBlock → own k e) : KeptO own w w' :=
  ⟨hg.size, fun k cs t fz h1 ht => hg.block k (Array.getElem?_eq_some_iff.1 h1).1 (by
    rcases h.2 with ⟨rfl, _⟩ | ⟨g', cap, cur, rfl, _, hh, _⟩
    · simp [Value.ownBlock]
    · intro he
      have hk := ho k he
      simp only [Value.ownBlock, Option.some.injEq] at he
      subst he
      rw [hh] at h1
      injection h1 with h1
      injection h1 with _ h2 _
      subst h2
      exact ht hk)⟩
theorem KeptO.cell {own : Nat → Nat → Prop} {w w' : World} (h : KeptO own w w') {g : Nat} {cs : Array Value} {t : Nat} {fz : Nat × Nat} (hg : w.heap[g]? = some (.cells cs t fz)) (ht : ¬ own g t) (o : Nat) : w'.cell? ⟨g, o, none⟩ = cs[o]? := by
  rw [World.cell?_of_block (w := w) (by exact h.2 g cs t fz hg ht)]
  simp [World.cell?, hg]
theorem KeptO.owns {own : Nat → Nat → Prop} {w w' : World} (h : KeptO own w w') {base size n : Nat} {e' : TypeId} {v : Value} {xs : List Value} (ho : w.ownsRow base e' size v n xs) (hne : ∀ k, ¬ own k e') : w'.ownsRow base e' size v n xs := by
  refine ⟨ho.1, ?_⟩
  rcases ho.2 with g | ⟨g, cap, cur, hv, hg, hh, r⟩
  · exact .inl g
  · exact .inr ⟨g, cap, cur, hv, hg, by rw [h.2 g _ _ _ hh (hne _)]; exact hh, r⟩
structure KepP (own : Nat → Nat → Prop) (W : World) where
  val : World
  is : KeptO own W val
instance (own : Nat → Nat → Prop) (W : World) : Nonempty (KepP own W) := ⟨⟨W, KeptO.refl own W⟩⟩
theorem kepP_start (own : Nat → Nat → Prop) (W : World) : ∃ p : KepP own W, W.drew = p.val := ⟨⟨W.drew, KeptO.below (bdrew1 (brefl W))⟩, rfl⟩
theorem kepP_of {own : Nat → Nat → Prop} {W W' : World} (h : KeptO own W W') : ∃ p : KepP own W, W' = p.val := ⟨⟨W', h⟩, rfl⟩
theorem kepP_ofA {own : Nat → Nat → Prop} {W W' : World} (h : KeptO own W W' := by repeat (first | exact KeptO.refl _ _ | assumption | refine KeptO.trans ?_ (KeptO.below (bdrew1 (brefl _))) | refine KeptO.trans ?_ (KeptO.below (balloc (brefl _) _)) | refine KeptO.trans ?_ (KeptO.below (by assumption)) | refine KeptO.trans ?_ (by assumption))) : ∃ p : KepP own W, W' = p.val := kepP_of h
theorem row_at {w : World} {base e size n c : Nat} {a : Option Addr} {xs : List Value} (h : w.ownsRow base e size (.slice a n c) n xs) (j : Nat) (hj : j < n * size) :
    ∃ (g : Nat) (cs : Array Value) (u : Value), a = some ⟨g, 0, none⟩ ∧ base ≤ g ∧ w.heap[g]? = some (.cells cs e (0, 0)) ∧ w.cell? ⟨g, j, none⟩ = some u ∧ u ∈ xs ∧ w.frozen? ⟨g, j, none⟩ = false ∧ ∀ v, (w.setCell ⟨g, j, none⟩ v).ownsRow base e size (.slice a n c) n (xs.set j v) := by
  have hlen : xs.length = n * size := h.1
  rcases h.2 with ⟨_, rfl⟩ | ⟨g, cap, cur, hv, hg, hc, _⟩
  · simp at hj
  · injection hv with h1 h2 h3
    subst h1 h3
    refine ⟨g, cur, xs[j]'(by omega), rfl, hg, hc, ?_, List.getElem_mem _, h.frozenAt j, fun v => (h.stored j v).1⟩
    rw [h.cellAt j (by omega), List.getElem?_eq_getElem (by omega)]
theorem wpAppF {P : Program} {w : World} {ops : Array Oper} {rest : List Oper} {o : Oper} {a : Act} {Q : Exit → Act → World → Prop} (hgd : o.guard = none) (s x : Operand) (t : TypeId)
    (ho : o.op = .call { callee := .builtin .append, args := #[s, x], argTypes := #[t, t] })
    (base : Nat) (e : TypeId) (z : Value) (size bytes : Nat) (ht : P.underlying t = some (.slice e)) (hi : (P.info? e).map (fun i => (i.zero, i.size, i.bytes)) = some (some z, size, bytes)) (hzs : z.cells.size = size) (hsz : 0 < size)
    (ao : Option Addr) (n cap : Nat) (xs : List Value) (hs : a.eval s = .slice ao n cap) (hown : w.ownsRow base e size (.slice ao n cap) n xs)
    (p : Addr) (m c : Nat) (hm : 0 < m) (news : List Value) (hx : a.eval x = .slice (some p) m c) (hl : news.length = m * size) (hnews : Has w (some p) news) (h1 : ∀ u ∈ news, u.oneCell' = true)
    (h63 : n + m ≤ maxLen) (hbytes : (n + m) * bytes ≤ 140737488355328) (hbase : base ≤ w.heap.size)
    (h' : ∀ a' c' w', w'.ownsRow base e size (.slice a' (n + m) c') (n + m) (xs ++ news) → n + m ≤ c' → c' ≤ maxLen → (a' = none → c' = 0) → Below base w w' → w.grownBy w' (Value.slice ao n cap).ownBlock → (a' = ao ∨ ∀ p, a' = some p → w.heap.size ≤ p.block) → wpList P ops Q rest (a.put o.dst (.slice a' (n + m) c')) w') : wpList P ops Q (o :: rest) a w := by
  obtain ⟨i, hi, hz, hz1, hz2⟩ := info_parts hi
  have hnc : ∀ j u, news[j]? = some u → w.cell? (p.add j) = some u := fun j u hu => by
    obtain ⟨q, hq, hc⟩ := hnews j u hu
    cases hq
    exact hc
  obtain ⟨_, _, he, k1, k2, k3⟩ := owns_slice hown
  cases he
  by_cases hfit : n + m ≤ cap
  · rcases hown.2 with ⟨hv, hn0⟩ | ⟨g, cap', cur, hv, _⟩
    · cases hv
      omega
    · injection hv with e1 _ e3
      subst e1 e3
      exact wpList_append_fits w hgd s x t ho base e i size ht hi hz1 g n cap xs hs hown p m c news hx hl hnc h1 hfit fun w' g1 g2 =>
        h' _ _ w' g1 hfit k2 (fun h => by cases h) ((Below.refl base w).grown g2 hbase fun k hk => (hown.lt k (by cases hk; rfl)).1) g2 (.inl rfl)
  · have hlo : xs.length = n * size := hown.1
    refine wpList_append_grows w hgd s x t ho e i z size bytes ht hi hz hz1 hz2 hzs hsz ao n cap xs hs (fun h => ⟨by have := k3 h; omega, k3 h⟩) hlo (fun b hb j u hu => ?_) p m c news hx hl hnc h1 (by omega) h63 hbytes fun v' w' g1 g2 => ?_
    · obtain ⟨q, hq, hc⟩ := has_of_owns hown j u hu
      rw [hb] at hq
      cases hq
      exact hc
    · obtain ⟨a', c', rfl, r1, r2, r3⟩ := owns_slice g1
      have hb : Below w.heap.size w w' := (Below.refl _ w).grown g2 (Nat.le_refl _) (fun k hk => by cases hk)
      refine h' a' c' w' (owns_mono g1 hbase) r1 r2 r3 (hb.mono hbase) ⟨g2.os, g2.tape, g2.output, g2.size, fun k hk _ => g2.block k hk (by simp)⟩ (.inr fun q hq => ?_)
      rcases g1.2 with ⟨hv, _⟩ | ⟨g', cap', cur, hv, hg', _⟩
      · injection hv with _ e2 _; omega
      · injection hv with e1 _ _
        subst e1
        cases hq
        exact hg'
end Go.Proofs.YthjnpfhcjacibaaDoor
end
section

/- Rows of numbers that a call makes: append, make. Conditions: sizes. -/
namespace Go.Proofs.YthjnpfhcjacibaaDoor
open Go.RowKit Go.Lib

theorem info_int : (Tryd.prog.info? 3).map (fun i => (i.zero, i.size, i.bytes)) = some (some (.int .i64 0), 1, 8) := by kernel_rfl
def IRow (B : Nat) (l : List Int) (v : Value) (w : World) : Prop := ∃ a c, v = .slice a l.length c ∧ w.ownsRow B 3 1 (.slice a l.length c) l.length (iv l)
theorem IRow.below {B : Nat} {l : List Int} {v : Value} {w w' : World} (h : IRow B l v w) (hb : Below w.heap.size w w') : IRow B l v w' := by
  obtain ⟨a, c, h1, h2⟩ := h
  exact ⟨a, c, h1, owns_below h2 hb (Nat.le_refl _)⟩
theorem IRow.mono {B B' : Nat} {l : List Int} {v : Value} {w : World} (h : IRow B l v w) (hb : B' ≤ B) : IRow B' l v w := by
  obtain ⟨a, c, h1, h2⟩ := h
  exact ⟨a, c, h1, owns_mono h2 hb⟩
theorem IRow.has {B : Nat} {l : List Int} {a : Option Addr} {n c : Nat} {w : World} (h : IRow B l (.slice a n c) w) : Has w a (iv l) := by
  obtain ⟨a', c', h1, h2⟩ := h
  injection h1 with e1 e2 e3
  subst e1
  exact has_of_owns h2
/-- Another kind's block stays apart. -/
theorem IRow.other {B : Nat} {l : List Int} {v : Value} {w w' : World} (h : IRow B l v w) (hb : Below B w w') (hk : ∀ g, v.ownBlock = some g → w'.heap[g]? = w.heap[g]?) : IRow B l v w' := by
  obtain ⟨a, c, rfl, h2⟩ := h
  refine ⟨a, c, rfl, h2.1, ?_⟩
  rcases h2.2 with g | ⟨g, cap, cur, hv, hg, hh, r⟩
  · exact .inl g
  · exact .inr ⟨g, cap, cur, hv, hg, (hk g (by rw [hv]; rfl)).trans hh, r⟩
theorem IRow.lit (w : World) (l : List Int) (B : Nat) (hB : B ≤ w.heap.size) (hl : l.length ≤ maxLen) (cs : Array Value) (hc : cs.toList = iv l) : IRow B l (.slice (some ⟨w.heap.size, 0, none⟩) l.length l.length) (w.alloc (.cells cs 3)) := by
  refine ⟨_, _, rfl, ?_⟩
  have := World.ownsRow_lit (e := 3) (size := 1) w cs l.length hB hl (by rw [← Array.length_toList, hc, iv_length, Nat.mul_one])
  rwa [hc] at this
/-- 'append' of some numbers. -/
theorem wpAppI {w : World} {ops : Array Oper} {rest : List Oper} {o : Oper} {a : Act} {Q : Exit → Act → World → Prop} (hgd : o.guard = none) (s x : Operand)
    (ho : o.op = .call { callee := .builtin .append, args := #[s, x], argTypes := #[27, 27] }) (B : Nat) (v : Value) (l m : List Int) (hs : a.eval s = v) (hown : IRow B l v w)
    (A : Option Addr) (k c : Nat) (hx : a.eval x = .slice A k c) (hk : m.length = k) (hh : Has w A (iv m)) (hA : A = none → c = 0) (hsz : l.length + k ≤ 1000000000) (hB : B ≤ w.heap.size)
    (h' : ∀ v' w', IRow B (l ++ m) v' w' → Below B w w' → w.grownBy w' v.ownBlock → wpList Tryd.prog ops Q rest (a.put o.dst v') w') : wpList Tryd.prog ops Q (o :: rest) a w := by
  obtain ⟨a0, c0, rfl, ho0⟩ := hown
  refine wpApp hgd s x 27 ho B 3 (.int .i64 0) 1 8 Tryd.underlying27 info_int rfl (by decide) _ l.length (iv l) hs ho0 A k c (iv m) hx (by rw [iv_length, hk, Nat.mul_one]) hh hA (iv_one m) (by unfold maxLen; omega) (by omega) hB ?_
  intro a1 c1 w1 hown k1 k2 k3 hb1 hg1
  refine h' _ w1 ⟨a1, c1, by rw [List.length_append, hk], ?_⟩ hb1 hg1
  rw [iv_append, List.length_append, hk]
  exact hown
/-- 'make' of room for so many numbers. -/
theorem wpMakeI {w : World} {ops : Array Oper} {rest : List Oper} {o : Oper} {a : Act} {Q : Exit → Act → World → Prop}
    (hg : o.guard = none) (l c : Operand) (hop : o.op = Op.makeSlice 27 l c) (n : Nat) (hl : a.eval l = .int .i64 0) (hc : a.eval c = .int .i64 (n : Int)) (hn : n ≤ 1000000000)
    (hK : ∀ v w', IRow w.heap.size [] v w' → Below w.heap.size w w' → wpList Tryd.prog ops Q rest (a.put o.dst v) w') : wpList Tryd.prog ops Q (o :: rest) a w := by
  obtain ⟨i, hi, hz, hz1, hz2⟩ := info_parts info_int
  refine wpList_make_own w hg l c 27 hop w.heap.size 3 i _ 1 Tryd.underlying27 hi hz hz1 .i64 .i64 _ n hl hc rfl (by rw [hz2]; omega) (by unfold maxLen; omega) (Nat.le_refl _) ?_
  intro w' h1 h2
  exact hK _ w' ⟨_, n, rfl, h1⟩ ((Below.refl _ w).grown h2 (Nat.le_refl _) (fun k hk => by cases hk))
end Go.Proofs.YthjnpfhcjacibaaDoor
end
section

/- The table of verbs as it lies in memory, and the order that a verb gives. No condition. -/
namespace Go.Proofs.YthjnpfhcjacibaaDoor
open Go.RowKit Go.Lib

def vPre : List (List UInt8) := [[], [65], [], [65], [65, 66], [65, 66], [], [], [65], [65], [65, 66], [65, 66], [65, 66], [65, 66], [65, 66], [65, 66]]
def vSuf : List (List UInt8) := [[], [], [68], [68], [], [], [67, 68], [67, 68], [67, 68], [67, 68], [68], [68], [67, 68], [67, 68], [67, 68], [67, 68]]
def vIs : List (List UInt8) := [[], [120, 65], [68, 120], [68, 120, 65], [120, 65, 66], [120, 66, 65], [67, 68, 120], [68, 67, 120], [67, 68, 120, 65], [68, 67, 120, 65], [68, 120, 65, 66], [68, 120, 66, 65], [67, 68, 120, 65, 66], [67, 68, 120, 66, 65], [68, 67, 120, 65, 66], [68, 67, 120, 66, 65]]
def preV (v : Nat) : List UInt8 := vPre.getD v []
def sufV (v : Nat) : List UInt8 := vSuf.getD v []
def isV (v : Nat) : List UInt8 := vIs.getD v []
def wasV (v : Nat) : List UInt8 := if v = 0 then [] else preV v ++ 120 :: sufV v
/-- The table of verbs lies in memory. -/
structure VerbsIn (w : World) : Prop where
  was : ∀ k, k < 16 → w.cell? ⟨0, k * 2, none⟩ = some (.string (str (wasV k)))
  is : ∀ k, k < 16 → w.cell? ⟨0, k * 2 + 1, none⟩ = some (.string (str (isV k)))
theorem VerbsIn.lt {w : World} (h : VerbsIn w) : 0 < w.heap.size := cell_lt (h.was 0 (by decide))
theorem VerbsIn.below {w w' : World} (h : VerbsIn w) (hb : Below w.heap.size w w') : VerbsIn w' :=
  ⟨fun k hk => (hb.cell (p := ⟨0, k * 2, none⟩) h.lt).trans (h.was k hk), fun k hk => (hb.cell (p := ⟨0, k * 2 + 1, none⟩) h.lt).trans (h.is k hk)⟩

def lettersAll : List UInt8 := [65, 66, 67, 68, 120]
theorem isV_letters : ∀ v, v < 16 → ∀ c ∈ isV v, c ∈ lettersAll := by decide
theorem isV_len : ∀ v, v < 16 → (isV v).length ≤ 5 := by decide
theorem preV_x : ∀ v, v < 16 → ∀ b ∈ preV v, b ≠ 120 := by decide
theorem ends_len : ∀ v, v < 16 → (preV v).length + (sufV v).length ≤ 4 := by decide
/-- What a letter stands for. -/
def letV (a b n : Nat) (c : UInt8) : List Int :=
  if c = 65 then [0] else if c = 66 then [1] else if c = 67 then [(n : Int) - 2] else if c = 68 then [(n : Int) - 1] else (List.range (n - b - a)).map fun i => ((a + i : Nat) : Int)
theorem letV_len (a b n : Nat) (c : UInt8) : (letV a b n c).length ≤ n + 1 := by
  unfold letV
  split
  · simp
  split
  · simp
  split
  · simp
  split
  · simp
  simp
  omega
/-- The order that a verb gives. -/
def ordV (v n : Nat) : List Int := (isV v).flatMap (letV (preV v).length (sufV v).length n)
/-- The letters up to the j-th. -/
def ordP (v n j : Nat) : List Int := ((isV v).take j).flatMap (letV (preV v).length (sufV v).length n)
theorem ordP_zero (v n : Nat) : ordP v n 0 = [] := rfl
theorem ordP_succ (v n j : Nat) (c : UInt8) (h : (isV v)[j]? = some c) : ordP v n (j + 1) = ordP v n j ++ letV (preV v).length (sufV v).length n c := by
  unfold ordP
  rw [List.take_add_one, h, List.flatMap_append]
  simp
theorem ordP_all (v n j : Nat) (h : (isV v).length ≤ j) : ordP v n j = ordV v n := by unfold ordP ordV; rw [List.take_of_length_le h]
theorem ordP_len (v n : Nat) : ∀ j, (ordP v n j).length ≤ j * (n + 1)
  | 0 => by simp [ordP_zero]
  | j + 1 => by
    have ih := ordP_len v n j
    rw [Nat.succ_mul]
    cases h : (isV v)[j]? with
    | none => rw [show ordP v n (j + 1) = ordP v n j by unfold ordP; rw [List.take_add_one, h]; simp]; omega
    | some c =>
      rw [ordP_succ v n j c h, List.length_append]
      have := letV_len (preV v).length (sufV v).length n c
      omega
/-- Is there an order? -/
def okV (z zn : Int) : Prop := 1 ≤ z ∧ z < 16 ∧ ((preV z.toNat).length : Int) + ((sufV z.toNat).length : Int) ≤ zn
instance (z zn : Int) : Decidable (okV z zn) := inferInstanceAs (Decidable (_ ∧ _ ∧ _))
def VOrdIs (B : Nat) (z zn : Int) (w : World) (e : Ending) (w' : World) : Prop :=
  (okV z zn ∧ ∃ v, e = .returned (.tuple #[v, .bool true]) ∧ IRow B (ordV z.toNat zn.toNat) v w' ∧ Below w.heap.size w w') ∨ (¬ okV z zn ∧ e = .returned (.tuple #[.slice none 0 0, .bool false]) ∧ Below w.heap.size w w')
end Go.Proofs.YthjnpfhcjacibaaDoor
end
section

/- Which order a verb gives: verb.Order. Conditions: the table of verbs lies in memory; sizes. -/
namespace Go.Proofs.YthjnpfhcjacibaaDoor
open Go.RowKit Go.Lib

theorem next_letter (w : World) (it : Nat) (o : ByteArray) (l : List UInt8) (j : Nat) (c : UInt8) (z : Int) (hit : w.heap[it]? = some (.stringIter o j)) (ho : o = str l) (hj : l[j]? = some c) (hc : c.toNat < 128) (hz : z = (c.toNat : Nat)) (ty : TypeId) :
    (Instr.next (.pointer (some ⟨it, 0, none⟩)) true ty).run Tryd.prog w = .ok (.tuple #[.bool true, .int .i64 (j : Nat), .int .i32 z]) (w.iterAt it o (j + 1)) := by
  subst ho hz
  obtain ⟨hlt, hg⟩ := List.getElem?_eq_some_iff.1 hj
  have hs : j < (str l).size := by rw [str_size]; exact hlt
  have e : (str l)[j]'hs = c := hg
  have := Lib.run_next_ascii_at (P := Tryd.prog) w it (str l) j ty hit hs (by rw [e]; exact hc)
  rw [e] at this
  exact this
theorem next_over (w : World) (it : Nat) (o : ByteArray) (l : List UInt8) (j : Nat) (hit : w.heap[it]? = some (.stringIter o j)) (ho : o = str l) (hj : l.length ≤ j) (ty : TypeId) :
    (Instr.next (.pointer (some ⟨it, 0, none⟩)) true ty).run Tryd.prog w = .ok (.tuple #[.bool false]) w :=
  Lib.run_next_end_at (P := Tryd.prog) w it o j ty hit (by subst ho; rw [str_size]; omega)
theorem IRow.apart {B : Nat} {l : List Int} {v : Value} {w : World} (h : IRow B l v w) {it : Nat} {o : ByteArray} {j : Nat} (hit : w.heap[it]? = some (.stringIter o j)) : some it ≠ v.ownBlock := by
  obtain ⟨a, c, rfl, h2⟩ := h
  rcases h2.2 with ⟨hv, _⟩ | ⟨g, cap, cur, hv, _, hh, _⟩
  · rw [hv]; simp [Value.ownBlock]
  · rw [hv]
    simp only [Value.ownBlock, ne_eq, Option.some.injEq]
    rintro rfl
    rw [hit] at hh
    cases hh
theorem IRow.iterAt {B : Nat} {l : List Int} {v : Value} {w : World} (h : IRow B l v w) {it : Nat} {o : ByteArray} {j : Nat} (hit : w.heap[it]? = some (.stringIter o j)) (hB : B ≤ it) (j' : Nat) : IRow B l v (w.iterAt it o j') :=
  h.other (Lib.below_iterAt (Below.refl _ _) hB o j') fun g hg => Lib.iterAt_other w it g o j' (by rintro rfl; exact h.apart hit hg.symm)
theorem iter_alloc {w : World} {it : Nat} {o : ByteArray} {j : Nat} (hit : w.heap[it]? = some (.stringIter o j)) (x : Obj) : (w.alloc x).heap[it]? = some (.stringIter o j) := by
  rw [heap_push, if_neg (by have := (Array.getElem?_eq_some_iff.1 hit).1; omega)]
  exact hit
theorem wpAppIt {w : World} {ops : Array Oper} {rest : List Oper} {o : Oper} {a : Act} {Q : Exit → Act → World → Prop} (hgd : o.guard = none) (s x : Operand)
    (ho : o.op = .call { callee := .builtin .append, args := #[s, x], argTypes := #[27, 27] }) (B : Nat) (v : Value) (l m : List Int) (hs : a.eval s = v) (hown : IRow B l v w)
    (A : Option Addr) (k c : Nat) (hx : a.eval x = .slice A k c) (hk : m.length = k) (hh : Has w A (iv m)) (hA : A = none → c = 0) (hsz : l.length + k ≤ 1000000000) (hB : B ≤ w.heap.size) (it : Nat) (so : ByteArray) (j : Nat) (hit : w.heap[it]? = some (.stringIter so j))
    (h' : ∀ v' w', IRow B (l ++ m) v' w' → Below B w w' → w'.heap[it]? = some (.stringIter so j) → wpList Tryd.prog ops Q rest (a.put o.dst v') w') : wpList Tryd.prog ops Q (o :: rest) a w :=
  wpAppI hgd s x ho B v l m hs hown A k c hx hk hh hA hsz hB fun v' w' h1 h2 h3 => h' v' w' h1 h2 ((h3.block it (Array.getElem?_eq_some_iff.1 hit).1 (hown.apart hit)).trans hit)
set_option maxRecDepth 100000 in
set_option maxHeartbeats 3200000 in
theorem vorder_any (z zn : Int) (w : World) (hV : VerbsIn w) (hn : zn ≤ 1000000) (hz0 : -9223372036854775808 ≤ zn) :
    Calls Tryd.prog 21 #[.int .i64 z, .int .i64 zn] w (VOrdIs w.heap.size z zn w) := by
  have hAC := allocC
  have hAF := allocF
  have d268 : decide ((268435455 : Int) < zn) = false := by simp; omega
  by_cases h1 : z < 1
  · have d1 : decide (z < 1) = true := by simpa using h1
    have hno : ¬ okV z zn := fun h => by have := h.1; omega
    clear hV h1 d268
    go_enter Tryd.func21, Tryd.ntmps21
    go_wp2_with fail
    go_ret2
    exact .inr ⟨hno, rfl, blw⟩
  have d1 : decide (z < 1) = false := by simp; omega
  by_cases h2 : 16 ≤ z
  · have d2 : decide (16 ≤ z) = true := by simpa using h2
    have hno : ¬ okV z zn := fun h => by have := h.2.1; omega
    clear hV h1 h2 d268
    go_enter Tryd.func21, Tryd.ntmps21
    go_wp2_with fail
    go_ret2
    exact .inr ⟨hno, rfl, blw⟩
  have d2 : decide (16 ≤ z) = false := by simp; omega
  obtain ⟨k, rfl⟩ : ∃ k : Nat, z = k := ⟨z.toNat, by omega⟩
  have hk : k < 16 := by omega
  have hk1 : 1 ≤ k := by omega
  have c0 := hV.was k hk
  have c1 := hV.is k hk
  rw [show wasV k = preV k ++ 120 :: sufV k by unfold wasV; rw [if_neg (by omega)]] at c0
  have HV := Lib.hid hV
  have HCUT := Lib.hid (fun w => cut_any (preV k) (sufV k) (preV_x k hk) (by have := ends_len k hk; omega) w)
  have s1 := str_size (preV k)
  have s2 := str_size (sufV k)
  have hab := ends_len k hk
  obtain ⟨o1, ho1⟩ : ∃ o, o = str (preV k ++ 120 :: sufV k) := ⟨_, rfl⟩
  obtain ⟨o2, ho2⟩ : ∃ o, o = str (isV k) := ⟨_, rfl⟩
  obtain ⟨S1, hS1⟩ : ∃ o, o = str (preV k) := ⟨_, rfl⟩
  obtain ⟨S2, hS2⟩ : ∃ o, o = str (sufV k) := ⟨_, rfl⟩
  rw [← ho1] at c0 HCUT
  rw [← ho2] at c1
  rw [← hS1] at s1 HCUT
  rw [← hS2] at s2 HCUT
  obtain ⟨a, ha⟩ : ∃ a, a = (preV k).length := ⟨_, rfl⟩
  obtain ⟨b, hb⟩ : ∃ b, b = (sufV k).length := ⟨_, rfl⟩
  rw [← ha] at s1 hab
  rw [← hb] at s2 hab
  have hg := HV.out.lt
  have hK16 : decide (k < 16) = true := by simp; omega
  have hK16i : decide ((k : Int) < 16) = true := by simp; omega
  have hK0i : decide ((0 : Int) ≤ (k : Int)) = true := by simp
  have HO2 := Lib.hid ho2
  have HA := Lib.hid ha
  have HB := Lib.hid hb
  clear hV h1 h2 ho1 ho2 hS1 hS2 ha hb
  by_cases h3 : zn < (a : Int) + (b : Int)
  · have d3 : decide (zn < (a : Int) + (b : Int)) = true := by simpa using h3
    have hno : ¬ okV k zn := fun h => by
      have := h.2.2
      rw [Int.toNat_natCast, ← HA.out, ← HB.out] at this
      omega
    have HNO := Lib.hid hno
    clear h3 hno d268
    go_enter Tryd.func21, Tryd.ntmps21
    go_wp2_with (go_at_call 36; (with_reducible refine (HCUT.out _).mono ?_); rintro e w1 ⟨rfl, hb1⟩; have h1c := bc hb1; have h1f := bf hb1; have h1z := hb1.size)
    go_ret2
    exact .inr ⟨HNO.out, rfl, hb1⟩
  have d3 : decide (zn < (a : Int) + (b : Int)) = false := by simp; omega
  obtain ⟨n, rfl⟩ : ∃ n : Nat, zn = n := ⟨zn.toNat, by omega⟩
  have hn2 : n ≤ 1000000 := by omega
  have hok : okV k n := ⟨by omega, by omega, by rw [Int.toNat_natCast, ← HA.out, ← HB.out]; omega⟩
  have HOK := Lib.hid hok
  have habn : a + b ≤ n := by omega
  clear h3 hok hn hz0
  go_enter Tryd.func21, Tryd.ntmps21
  go_wp2_with (first
    | (go_at_call 36; (with_reducible refine (HCUT.out _).mono ?_); rintro e w1 ⟨rfl, hb1⟩; have h1c := bc hb1; have h1f := bf hb1; have h1z := hb1.size)
    | (refine wpMakeI rfl _ _ rfl n rfl rfl (by omega) ?_; intro v2 w2 hI2 hb2; have HI2 := Lib.hid hI2; have h2c := bc hb2; have h2f := bf hb2; have h2z := hb2.size; clear hI2))
  obtain ⟨wi, hwi⟩ : ∃ wi, wi = w2.iter o2 0 := ⟨_, rfl⟩
  have hit := World.iter_heap w2 o2 0
  have hbi : Below w.heap.size w wi := by rw [hwi]; exact bthen (bthen (brefl _) hb1) hb2 |>.alloc (by omega) _
  have hIi : IRow w.heap.size [] v2 wi := by rw [hwi]; exact (HI2.out.below (balloc (brefl _) _)).mono hb1.size
  rw [← hwi] at hit ⊢
  have hwit : w.heap.size ≤ w2.heap.size := by omega
  obtain ⟨it, hii⟩ : ∃ it, it = w2.heap.size := ⟨_, rfl⟩
  rw [← hii] at hit hwit ⊢
  have HIT := Lib.hid hit
  have HBI := Lib.hid hbi
  have HII := Lib.hid hIi
  clear hwi hit hbi hIi hii h1c h1f h1z h2c h2f h2z hb1 hb2 HI2 c0 c1 HV HCUT
  go_loopw [9] (fun v wr => ∃ j : Nat, j ≤ (isV k).length ∧ IRow w.heap.size (ordP k n j) v wr ∧ wr.heap[it]? = some (.stringIter o2 j) ∧ Below w.heap.size w wr) (fun _ wr => (isV k).length - wr.iterPos it)
  case atStart => exact ⟨0, Nat.zero_le _, by rw [ordP_zero]; exact HII.out, HIT.out, HBI.out⟩
  case round =>
    obtain ⟨j, hj, hI, hit, hb⟩ := hrel
    have HI := Lib.hid hI
    have HIT2 := Lib.hid hit
    have HBR := Lib.hid hb
    have hzr := hb.size
    clear hI hb
    by_cases hlt : j < (isV k).length
    · have hcm := isV_letters k hk _ (List.getElem_mem hlt)
      have hcj := List.getElem?_eq_getElem hlt
      generalize (isV k)[j] = c at hcm hcj
      have HS := Lib.hid (ordP_succ k n j c hcj)
      simp only [lettersAll, List.mem_cons, List.not_mem_nil, or_false] at hcm
      have hbr1 := Lib.below_iterAt HBR.out hwit o2 (j + 1)
      have HI1 := Lib.hid (HI.out.iterAt hit hwit (j + 1))
      have HIT3 := Lib.hid (Lib.iterAt_heap wr it o2 j (j + 1) hit)
      have HBR1 := Lib.hid hbr1
      have hlen : (ordP k n j).length ≤ 10000000 := by
        have h1 := ordP_len k n j
        have h2 := isV_len k hk
        have h3 : j * (n + 1) ≤ 5 * (n + 1) := Nat.mul_le_mul_right _ (by omega)
        omega
      have HNX := Lib.hid (fun z hz ty => next_letter wr it o2 (isV k) j c z hit HO2.out hcj (by rcases hcm with rfl | rfl | rfl | rfl | rfl <;> decide) hz ty)
      clear hbr1 hit
      rcases hcm with rfl | rfl | rfl | rfl | rfl
      · have hnx := HNX.out 65 rfl
        obtain ⟨wx, hwx⟩ : ∃ wx, wx = wr.iterAt it o2 (j + 1) := ⟨_, rfl⟩
        rw [← hwx] at hnx HI1 HIT3 HBR1
        clear hwx HNX
        go_wp2_with (at_builtin; refine wpAppIt rfl _ _ rfl w.heap.size _ (ordP k n j) [0] rfl (HI1.out.below (balloc (brefl _) _)) (some ⟨wx.heap.size, 0, none⟩) 1 1 rfl rfl (has_alloc wx _ _) (fun h => by cases h) (by omega) (by have := HBR1.out.size; simp; omega) it o2 (j + 1) (iter_alloc HIT3.out _) ?_; intro v3 w3 hI3 hb3 hit3; have HI3 := Lib.hid hI3; have HIT4 := Lib.hid hit3; have HB3 := Lib.hid ((HBR1.out.alloc HBR1.out.size _).trans hb3); clear hI3 hit3 hb3)
        go_roundw
        case rel => exact ⟨j + 1, hlt, by rw [HS.out]; exact (show letV (preV k).length (sufV k).length n 65 = [0] by rfl) ▸ HI3.out, HIT4.out, HB3.out⟩
        case measure => simp only [World.iterPos, HIT4.out, HIT2.out]; omega
      · have hnx := HNX.out 66 rfl
        obtain ⟨wx, hwx⟩ : ∃ wx, wx = wr.iterAt it o2 (j + 1) := ⟨_, rfl⟩
        rw [← hwx] at hnx HI1 HIT3 HBR1
        clear hwx HNX
        go_wp2_with (at_builtin; refine wpAppIt rfl _ _ rfl w.heap.size _ (ordP k n j) [1] rfl (HI1.out.below (balloc (brefl _) _)) (some ⟨wx.heap.size, 0, none⟩) 1 1 rfl rfl (has_alloc wx _ _) (fun h => by cases h) (by omega) (by have := HBR1.out.size; simp; omega) it o2 (j + 1) (iter_alloc HIT3.out _) ?_; intro v3 w3 hI3 hb3 hit3; have HI3 := Lib.hid hI3; have HIT4 := Lib.hid hit3; have HB3 := Lib.hid ((HBR1.out.alloc HBR1.out.size _).trans hb3); clear hI3 hit3 hb3)
        go_roundw
        case rel => exact ⟨j + 1, hlt, by rw [HS.out]; exact (show letV (preV k).length (sufV k).length n 66 = [1] by rfl) ▸ HI3.out, HIT4.out, HB3.out⟩
        case measure => simp only [World.iterPos, HIT4.out, HIT2.out]; omega
      · have hnx := HNX.out 67 rfl
        obtain ⟨wx, hwx⟩ : ∃ wx, wx = wr.iterAt it o2 (j + 1) := ⟨_, rfl⟩
        rw [← hwx] at hnx HI1 HIT3 HBR1
        clear hwx HNX
        go_wp2_with (at_builtin; refine wpAppIt rfl _ _ rfl w.heap.size _ (ordP k n j) [(n : Int) - 1 - 1] rfl (HI1.out.below (balloc (brefl _) _)) (some ⟨wx.heap.size, 0, none⟩) 1 1 rfl rfl (has_alloc wx _ _) (fun h => by cases h) (by omega) (by have := HBR1.out.size; simp; omega) it o2 (j + 1) (iter_alloc HIT3.out _) ?_; intro v3 w3 hI3 hb3 hit3; have HI3 := Lib.hid hI3; have HIT4 := Lib.hid hit3; have HB3 := Lib.hid ((HBR1.out.alloc HBR1.out.size _).trans hb3); clear hI3 hit3 hb3)
        go_roundw
        case rel => exact ⟨j + 1, hlt, by rw [HS.out]; exact (show letV (preV k).length (sufV k).length n 67 = [(n : Int) - 1 - 1] by show [(n : Int) - 2] = _; congr 1; omega) ▸ HI3.out, HIT4.out, HB3.out⟩
        case measure => simp only [World.iterPos, HIT4.out, HIT2.out]; omega
      · have hnx := HNX.out 68 rfl
        obtain ⟨wx, hwx⟩ : ∃ wx, wx = wr.iterAt it o2 (j + 1) := ⟨_, rfl⟩
        rw [← hwx] at hnx HI1 HIT3 HBR1
        clear hwx HNX
        go_wp2_with (at_builtin; refine wpAppIt rfl _ _ rfl w.heap.size _ (ordP k n j) [(n : Int) - 1] rfl (HI1.out.below (balloc (brefl _) _)) (some ⟨wx.heap.size, 0, none⟩) 1 1 rfl rfl (has_alloc wx _ _) (fun h => by cases h) (by omega) (by have := HBR1.out.size; simp; omega) it o2 (j + 1) (iter_alloc HIT3.out _) ?_; intro v3 w3 hI3 hb3 hit3; have HI3 := Lib.hid hI3; have HIT4 := Lib.hid hit3; have HB3 := Lib.hid ((HBR1.out.alloc HBR1.out.size _).trans hb3); clear hI3 hit3 hb3)
        go_roundw
        case rel => exact ⟨j + 1, hlt, by rw [HS.out]; exact (show letV (preV k).length (sufV k).length n 68 = [(n : Int) - 1] by rfl) ▸ HI3.out, HIT4.out, HB3.out⟩
        case measure => simp only [World.iterPos, HIT4.out, HIT2.out]; omega
      · have hnx := HNX.out 120 rfl
        obtain ⟨wx, hwx⟩ : ∃ wx, wx = wr.iterAt it o2 (j + 1) := ⟨_, rfl⟩
        rw [← hwx] at hnx HI1 HIT3 HBR1
        clear hwx HNX
        go_wp2_with fail
        go_loopw [9, 12] (fun v i wq => ∃ q : Nat, q ≤ n - b - a ∧ i = .int .i64 ((a : Int) + (q : Int)) ∧ IRow w.heap.size (ordP k n j ++ (List.range q).map fun i => ((a + i : Nat) : Int)) v wq ∧ wq.heap[it]? = some (.stringIter o2 (j + 1)) ∧ Below w.heap.size w wq) (fun _ i _ => n - (RowKit.intOf i).toNat)
        case atStart => exact ⟨0, Nat.zero_le _, by simp, by simpa using HI1.out, HIT3.out, HBR1.out⟩
        case round =>
          obtain ⟨q, hq, rfl, hI, hit, hb⟩ := hrel
          have HIQ := Lib.hid hI
          have HITQ := Lib.hid hit
          have HBQ := Lib.hid hb
          have hzq := hb.size
          clear hI hit hb
          by_cases hlq : q < n - b - a
          · have d5 : decide ((a : Int) + (q : Int) < (n : Int) - (b : Int)) = true := by simp; omega
            rename World => wq
            go_wp2_with (at_builtin; refine wpAppIt rfl _ _ rfl w.heap.size _ (ordP k n j ++ (List.range q).map fun i => ((a + i : Nat) : Int)) [(a : Int) + (q : Int)] rfl (HIQ.out.below (balloc (brefl _) _)) (some ⟨wq.heap.size, 0, none⟩) 1 1 rfl rfl (has_alloc wq _ _) (fun h => by cases h) (by simp; omega) (by simp; omega) it o2 (j + 1) (iter_alloc HITQ.out _) ?_; intro v3 w3 hI3 hb3 hit3; have HI3 := Lib.hid hI3; have HIT4 := Lib.hid hit3; have HB3 := Lib.hid ((HBQ.out.alloc HBQ.out.size _).trans hb3); clear hI3 hit3 hb3)
            go_roundw
            case rel => exact ⟨q + 1, by omega, by go_num, by rw [List.range_succ, List.map_append, ← List.append_assoc]; exact HI3.out, HIT4.out, HB3.out⟩
            case measure => simp only [RowKit.intOf]; omega
          · obtain rfl : q = n - b - a := by omega
            have d5 : decide ((a : Int) + ((n - b - a : Nat) : Int) < (n : Int) - (b : Int)) = false := by simp; omega
            go_wp2_with fail
            go_roundw
            case rel => exact ⟨j + 1, hlt, by rw [HS.out, ← HA.out, ← HB.out]; exact HIQ.out, HITQ.out, HBQ.out⟩
            case measure => simp only [World.iterPos, HITQ.out, HIT2.out]; omega
    · have hnx := fun ty => next_over wr it o2 (isV k) j hit HO2.out (by omega) ty
      have HE := Lib.hid (ordP_all k n j (by omega))
      clear hit
      go_wp2_with fail
      go_ret2
      exact .inl ⟨HOK.out, _, rfl, by rw [Int.toNat_natCast, Int.toNat_natCast, ← HE.out]; exact HI.out, HBR.out⟩
end Go.Proofs.YthjnpfhcjacibaaDoor
end
section

/- What the order that a verb gives is, place by place. No walk. Condition: as many glyphs as the verb has letters. -/
namespace Go.Proofs.YthjnpfhcjacibaaDoor
open Go.RowKit Go.Lib

def preC : Nat → List Nat
  | 2 | 3 | 10 | 11 => [3]
  | 6 | 8 | 12 | 13 => [2, 3]
  | 7 | 9 | 14 | 15 => [3, 2]
  | _ => []
def sufC : Nat → List Nat
  | 1 | 3 | 8 | 9 => [0]
  | 4 | 10 | 12 | 14 => [0, 1]
  | 5 | 11 | 13 | 15 => [1, 0]
  | _ => []
def codeL (c : Nat) : UInt8 := UInt8.ofNat (65 + c)
/-- What stands for a letter: the first two, and the last two, of a row. -/
def eC (n c : Nat) : Int := if c < 2 then (c : Int) else (n : Int) - 4 + c
theorem isV_split : ∀ v, v < 16 → 1 ≤ v → isV v = (preC v).map codeL ++ 120 :: (sufC v).map codeL := by decide
theorem codes_lt : ∀ v, v < 16 → (∀ c ∈ preC v, c < 4) ∧ (∀ c ∈ sufC v, c < 4) := by decide
theorem letV_code (a b n c : Nat) (h : c < 4) : letV a b n (codeL c) = [eC n c] := by
  match c, h with
  | 0, _ => rfl
  | 1, _ => rfl
  | 2, _ => show [(n : Int) - 2] = [(n : Int) - 4 + 2]; congr 1; omega
  | 3, _ => show [(n : Int) - 1] = [(n : Int) - 4 + 3]; congr 1; omega
theorem flat_code (a b n : Nat) : ∀ l : List Nat, (∀ c ∈ l, c < 4) → (l.map codeL).flatMap (letV a b n) = l.map (eC n)
  | [], _ => rfl
  | c :: l, h => by
    rw [List.map_cons, List.flatMap_cons, letV_code a b n c (h c (by simp)), flat_code a b n l (fun c hc => h c (by simp [hc]))]
    rfl
theorem ordV_is (v n : Nat) (hv : v < 16) (h1 : 1 ≤ v) : ordV v n = (preC v).map (eC n) ++ ((List.range (n - (sufV v).length - (preV v).length)).map (fun i => (((preV v).length + i : Nat) : Int)) ++ (sufC v).map (eC n)) := by
  obtain ⟨c1, c2⟩ := codes_lt v hv
  unfold ordV
  rw [isV_split v hv h1, List.flatMap_append, List.flatMap_cons, flat_code _ _ _ _ c1, flat_code _ _ _ _ c2]
  rfl
/-- Its i-th number. -/
def eV (v n i : Nat) : Int :=
  if i < (preC v).length then eC n ((preC v).getD i 0)
  else if i < (preC v).length + (n - (sufV v).length - (preV v).length) then (((preV v).length + (i - (preC v).length) : Nat) : Int)
  else eC n ((sufC v).getD (i - (preC v).length - (n - (sufV v).length - (preV v).length)) 0)
theorem ends_same : ∀ v, v < 16 → (preC v).length + (sufC v).length = (preV v).length + (sufV v).length := by decide
theorem ordV_length (v n : Nat) (hv : v < 16) (h1 : 1 ≤ v) (h : (preV v).length + (sufV v).length ≤ n) : (ordV v n).length = n := by
  have := ends_same v hv
  rw [ordV_is v n hv h1]
  simp only [List.length_append, List.length_map, List.length_range]
  omega
theorem ordV_get (v n i : Nat) (hv : v < 16) (h1 : 1 ≤ v) (h : (preV v).length + (sufV v).length ≤ n) (hi : i < n) : (ordV v n)[i]? = some (eV v n i) := by
  have he := ends_same v hv
  rw [ordV_is v n hv h1, List.getElem?_append, List.length_map]
  unfold eV
  by_cases g1 : i < (preC v).length
  · rw [if_pos g1, if_pos g1, List.getElem?_map, List.getElem?_eq_getElem g1, List.getD_eq_getElem?_getD, List.getElem?_eq_getElem g1]
    rfl
  rw [if_neg g1, if_neg g1, List.getElem?_append, List.length_map, List.length_range]
  by_cases g2 : i < (preC v).length + (n - (sufV v).length - (preV v).length)
  · rw [if_pos (by omega), if_pos g2, List.getElem?_map, List.getElem?_range (by omega)]
    rfl
  · rw [if_neg (by omega), if_neg g2]
    have g3 : i - (preC v).length - (n - (sufV v).length - (preV v).length) < (sufC v).length := by omega
    rw [List.getElem?_map, List.getElem?_eq_getElem g3, List.getD_eq_getElem?_getD, List.getElem?_eq_getElem g3]
    rfl
/-- What its numbers are like: below n, from 0 on; each once; those between one behind the other. -/
theorem getD1 (a j : Nat) : [a].getD j 0 = if j = 0 then a else 0 := by
  match j with
  | 0 => rfl
  | j + 1 => simp
theorem getD2 (a b j : Nat) : [a, b].getD j 0 = if j = 0 then a else if j = 1 then b else 0 := by
  match j with
  | 0 => rfl
  | 1 => rfl
  | j + 2 => simp
/-- All fifteen, one by one. -/
theorem verbs15 {P : Nat → Prop} (h1 : P 1) (h2 : P 2) (h3 : P 3) (h4 : P 4) (h5 : P 5) (h6 : P 6) (h7 : P 7) (h8 : P 8) (h9 : P 9) (h10 : P 10) (h11 : P 11) (h12 : P 12) (h13 : P 13) (h14 : P 14) (h15 : P 15) : ∀ v, 1 ≤ v → v < 16 → P v
  | 1, _, _ => h1 | 2, _, _ => h2 | 3, _, _ => h3 | 4, _, _ => h4 | 5, _, _ => h5 | 6, _, _ => h6 | 7, _, _ => h7 | 8, _, _ => h8 | 9, _, _ => h9 | 10, _, _ => h10 | 11, _, _ => h11 | 12, _, _ => h12 | 13, _, _ => h13 | 14, _, _ => h14 | 15, _, _ => h15
  | v + 16, _, h => absurd h (by omega)
theorem eV_in (v : Nat) (h1 : 1 ≤ v) (hv : v < 16) : ∀ n i, (preV v).length + (sufV v).length ≤ n → i < n → 0 ≤ eV v n i ∧ eV v n i < (n : Int) := by
  revert v
  apply verbs15 <;>
  · intro n i
    simp only [eV, preC, sufC, preV, sufV, vPre, vSuf, List.getD_cons_succ, List.getD_cons_zero, List.length_cons, List.length_nil, eC, getD1, getD2]
    intro h hi
    refine ⟨?_, ?_⟩
    · repeat' split
      all_goals omega
    · repeat' split
      all_goals omega
theorem eC_end (n c : Nat) (h : c < 4) : eC n c ≤ 1 ∨ (n : Int) - 2 ≤ eC n c := by
  unfold eC
  split <;> omega
theorem getD_lt {l : List Nat} (h : ∀ c ∈ l, c < 4) (j : Nat) : l.getD j 0 < 4 := by
  rw [List.getD_eq_getElem?_getD]
  cases hj : l[j]? with
  | none => decide
  | some c => exact h c (List.mem_of_getElem? hj)
theorem suf_two : ∀ v, v < 16 → (sufV v).length ≤ 2 := by decide
theorem eV_next (v : Nat) (h1 : 1 ≤ v) (hv : v < 16) (n i : Nat) (h : (preV v).length + (sufV v).length ≤ n) (g1 : 2 ≤ eV v n i) (g2 : eV v n i < (n : Int) - 3) : i + 1 < n ∧ eV v n (i + 1) = eV v n i + 1 := by
  obtain ⟨c1, c2⟩ := codes_lt v hv
  have he := ends_same v hv
  have hb := suf_two v hv
  by_cases k1 : i < (preC v).length
  · have : eV v n i = eC n ((preC v).getD i 0) := by unfold eV; rw [if_pos k1]
    have := eC_end n _ (getD_lt c1 i)
    omega
  by_cases k2 : i < (preC v).length + (n - (sufV v).length - (preV v).length)
  · have e1 : eV v n i = (((preV v).length + (i - (preC v).length) : Nat) : Int) := by unfold eV; rw [if_neg k1, if_pos k2]
    have k3 : i + 1 < (preC v).length + (n - (sufV v).length - (preV v).length) := by omega
    have e2 : eV v n (i + 1) = (((preV v).length + (i + 1 - (preC v).length) : Nat) : Int) := by unfold eV; rw [if_neg (by omega), if_pos k3]
    exact ⟨by omega, by omega⟩
  · have : eV v n i = eC n ((sufC v).getD (i - (preC v).length - (n - (sufV v).length - (preV v).length)) 0) := by unfold eV; rw [if_neg k1, if_neg k2]
    have := eC_end n _ (getD_lt c2 (i - (preC v).length - (n - (sufV v).length - (preV v).length)))
    omega
end Go.Proofs.YthjnpfhcjacibaaDoor
end
section

/- What law 13 asks of a verb first; orders as slices. Condition: the table of verbs lies in memory. -/
namespace Go.Proofs.YthjnpfhcjacibaaDoor
open Go.RowKit Go.Lib

theorem okV_pre {z zn : Int} (h : okV z zn) : ∃ v n : Nat, z = v ∧ zn = n ∧ 1 ≤ v ∧ v < 16 ∧ (preV v).length + (sufV v).length ≤ n := by
  obtain ⟨h1, h2, h3⟩ := h
  refine ⟨z.toNat, zn.toNat, by omega, by omega, by omega, by omega, by omega⟩
theorem IRow.slice {B : Nat} {l : List Int} {v : Value} {w : World} (h : IRow B l v w) : ∃ a c, v = .slice a l.length c ∧ Has w a (iv l) ∧ l.length ≤ c ∧ c ≤ maxLen ∧ (a = none → c = 0) := by
  obtain ⟨a, c, rfl, h2⟩ := h
  obtain ⟨a', c', e, k1, k2, k3⟩ := owns_slice h2
  injection e with e1 e2 e3
  subst e1 e3
  exact ⟨a, c, rfl, has_of_owns h2, k1, k2, k3⟩
theorem vorder_yes (v n : Nat) (w : World) (hV : VerbsIn w) (hn : n ≤ 1000000) (h1 : 1 ≤ v) (hv : v < 16) (h : (preV v).length + (sufV v).length ≤ n) (z zn : Int) (hz : z = v) (hzn : zn = n) :
    Calls Tryd.prog 21 #[.int .i64 z, .int .i64 zn] w fun e w' => ∃ a c, e = .returned (.tuple #[.slice a n c, .bool true]) ∧ Has w' a (iv (ordV v n)) ∧ n ≤ c ∧ c ≤ maxLen ∧ (a = none → c = 0) ∧ Below w.heap.size w w' := by
  subst hz hzn
  refine (vorder_any v n w hV (by omega) (by omega)).mono ?_
  rintro e w' (⟨_, x, rfl, hI, hb⟩ | ⟨hno, _⟩)
  · obtain ⟨a, c, rfl, k1, k2, k3, k4⟩ := hI.slice
    rw [Int.toNat_natCast, Int.toNat_natCast] at k1 k2 ⊢
    rw [ordV_length v n hv h1 h] at k2 ⊢
    exact ⟨a, c, rfl, k1, k2, k3, k4, hb⟩
  · exact absurd ⟨by omega, by omega, by rw [Int.toNat_natCast]; omega⟩ hno
theorem vorder_no (z zn : Int) (w : World) (hV : VerbsIn w) (hn : zn ≤ 1000000) (hz : -9223372036854775808 ≤ zn) (hno : ¬ okV z zn) :
    Calls Tryd.prog 21 #[.int .i64 z, .int .i64 zn] w fun e w' => e = .returned (.tuple #[.slice none 0 0, .bool false]) ∧ Below w.heap.size w w' := by
  refine (vorder_any z zn w hV hn hz).mono ?_
  rintro e w' (⟨hok, _⟩ | ⟨_, h, hb⟩)
  · exact absurd hok hno
  · exact ⟨h, hb⟩
/-- A number of a slice, its address written out. -/
theorem iv_cell {w : World} {a : Option Addr} {l : List Int} (h : Has w a (iv l)) (h0 : 0 < l.length) : ∃ g o, a = some ⟨g, o, none⟩ ∧ g < w.heap.size ∧ ∀ j z, l[j]? = some z → w.cell? ⟨g, o + j, none⟩ = some (.int .i64 z) := by
  obtain ⟨g, o, ha, hg, hx⟩ := h.get (by rw [iv_length]; omega)
  exact ⟨g, o, ha, hg, fun j z hz => hx j _ (iv_get hz)⟩
theorem ord34 : ordV 3 4 = [3, 1, 2, 0] := by decide
end Go.Proofs.YthjnpfhcjacibaaDoor
end
section

/- Glyphs as cells; copy between rows of elements of more cells than one; a line in memory. Conditions: sizes, as the lemmas say. -/
namespace Go.Proofs.YthjnpfhcjacibaaDoor
open Go.RowKit

def gv (l : List (Int × Int)) : List Value := l.flatMap fun g => [.int .i64 g.1, .int .i64 g.2]
theorem gv_nil : gv [] = [] := rfl
theorem gv_cons (g : Int × Int) (l : List (Int × Int)) : gv (g :: l) = .int .i64 g.1 :: .int .i64 g.2 :: gv l := rfl
theorem gv_length : ∀ l, (gv l).length = l.length * 2
  | [] => rfl
  | g :: l => by rw [gv_cons, List.length_cons, List.length_cons, gv_length l, List.length_cons]; omega
theorem gv_append (a b : List (Int × Int)) : gv (a ++ b) = gv a ++ gv b := by simp [gv]
theorem gv_take : ∀ (l : List (Int × Int)) (k : Nat), gv (l.take k) = (gv l).take (k * 2)
  | [], k => by simp [gv_nil]
  | g :: l, 0 => by simp [gv_nil]
  | g :: l, k + 1 => by rw [List.take_succ_cons, gv_cons, gv_cons, gv_take l k, show (k + 1) * 2 = k * 2 + 1 + 1 by omega, List.take_succ_cons, List.take_succ_cons]
theorem gv_drop : ∀ (l : List (Int × Int)) (k : Nat), gv (l.drop k) = (gv l).drop (k * 2)
  | [], k => by simp [gv_nil]
  | g :: l, 0 => by simp
  | g :: l, k + 1 => by rw [List.drop_succ_cons, gv_cons, gv_drop l k, show (k + 1) * 2 = k * 2 + 1 + 1 by omega, List.drop_succ_cons, List.drop_succ_cons]
theorem gv_one (l : List (Int × Int)) : ∀ u ∈ gv l, u.oneCell' = true := by
  intro u hu
  simp only [gv, List.mem_flatMap, List.mem_cons, List.not_mem_nil, or_false] at hu
  obtain ⟨g, _, rfl | rfl⟩ := hu <;> rfl
theorem gv_fst : ∀ {l : List (Int × Int)} {j : Nat} {g : Int × Int}, l[j]? = some g → (gv l)[j * 2]? = some (.int .i64 g.1)
  | [], j, g, h => by simp at h
  | x :: l, 0, g, h => by simp at h; subst h; rfl
  | x :: l, j + 1, g, h => by
    rw [gv_cons, show (j + 1) * 2 = j * 2 + 1 + 1 by omega, List.getElem?_cons_succ, List.getElem?_cons_succ]
    exact gv_fst (by simpa using h)
theorem gv_snd : ∀ {l : List (Int × Int)} {j : Nat} {g : Int × Int}, l[j]? = some g → (gv l)[j * 2 + 1]? = some (.int .i64 g.2)
  | [], j, g, h => by simp at h
  | x :: l, 0, g, h => by simp at h; subst h; rfl
  | x :: l, j + 1, g, h => by
    rw [gv_cons, show (j + 1) * 2 + 1 = j * 2 + 1 + 1 + 1 by omega, List.getElem?_cons_succ, List.getElem?_cons_succ]
    exact gv_snd (by simpa using h)
theorem gv_set : ∀ (l : List (Int × Int)) (j : Nat) (x y : Int), ((gv l).set (j * 2) (.int .i64 x)).set (j * 2 + 1) (.int .i64 y) = gv (l.set j (x, y))
  | [], j, x, y => by simp [gv_nil]
  | g :: l, 0, x, y => rfl
  | g :: l, j + 1, x, y => by
    rw [gv_cons, show (j + 1) * 2 = j * 2 + 1 + 1 by omega, List.set_cons_succ, List.set_cons_succ, List.set_cons_succ, List.set_cons_succ, gv_set l j x y, List.set_cons_succ, gv_cons]
theorem gv_set1 : ∀ (l : List (Int × Int)) (j : Nat) (x : Int) (g : Int × Int), l[j]? = some g → (gv l).set (j * 2) (.int .i64 x) = gv (l.set j (x, g.2))
  | [], j, x, g, h => by simp at h
  | g :: l, 0, x, g', h => by simp at h; subst h; rfl
  | g :: l, j + 1, x, g', h => by
    rw [gv_cons, show (j + 1) * 2 = j * 2 + 1 + 1 by omega, List.set_cons_succ, List.set_cons_succ, gv_set1 l j x g' (by simpa using h), List.set_cons_succ, gv_cons]
theorem gv_set2 : ∀ (l : List (Int × Int)) (j : Nat) (x : Int) (g : Int × Int), l[j]? = some g → (gv l).set (j * 2 + 1) (.int .i64 x) = gv (l.set j (g.1, x))
  | [], j, x, g, h => by simp at h
  | g :: l, 0, x, g', h => by simp at h; subst h; rfl
  | g :: l, j + 1, x, g', h => by
    rw [gv_cons, show (j + 1) * 2 + 1 = j * 2 + 1 + 1 + 1 by omega, List.set_cons_succ, List.set_cons_succ, gv_set2 l j x g' (by simpa using h), List.set_cons_succ, gv_cons]
theorem gv_inj : ∀ {a b : List (Int × Int)}, gv a = gv b → a = b
  | [], [], _ => rfl
  | [], _ :: _, h => by cases h
  | _ :: _, [], h => by cases h
  | x :: a, y :: b, h => by
    rw [gv_cons, gv_cons] at h
    injection h with h1 h
    injection h with h2 h
    injection h1 with _ h1
    injection h2 with _ h2
    rw [gv_inj h, show x = y from Prod.ext h1 h2]

theorem info_glyph : (Tryd.prog.info? 42).map (fun i => (i.zero, i.size, i.bytes)) = some (some (.agg #[.int .i64 0, .int .i64 0]), 2, 16) := by kernel_rfl
theorem made_glyph (n : Nat) : (madeCells (Value.agg #[.int .i64 0, .int .i64 0]).cells (n * 2)).toList = gv (List.replicate n (0, 0)) := by
  apply List.ext_getElem
  · simp [madeCells, gv_length]
  · intro i h1 h2
    have hlt : i < n * 2 := by rw [gv_length, List.length_replicate] at h2; exact h2
    have hd : i / 2 < n := by omega
    have hg : (List.replicate n ((0 : Int), (0 : Int)))[i / 2]? = some (0, 0) := by rw [List.getElem?_replicate, if_pos hd]
    have hr : (gv (List.replicate n (0, 0)))[i]? = some (.int .i64 0) := by
      rcases Nat.mod_two_eq_zero_or_one i with h | h
      · have := gv_fst hg; rwa [show i / 2 * 2 = i by omega] at this
      · have := gv_snd hg; rwa [show i / 2 * 2 + 1 = i by omega] at this
    rw [List.getElem?_eq_getElem h2] at hr
    rw [Option.some.inj hr]
    simp only [madeCells, Array.getElem_toList, Array.getElem_ofFn, Value.cells]
    rcases Nat.mod_two_eq_zero_or_one i with h | h <;> simp [h]

/-- A line in memory: a block of its own, and glyphs of its own. -/
structure GIs (B g : Nat) (a : Option Addr) (c : Nat) (l : List (Int × Int)) (w : World) : Prop where
  hd : w.heap[g]? = some (.cells #[.slice a l.length c] 72 (0, 0))
  row : w.ownsRow B 42 2 (.slice a l.length c) l.length (gv l)
/-- What a change of a line may touch: its block, and its glyphs'. -/
structure GStep (B g : Nat) (a a' : Option Addr) (w w' : World) : Prop where
  below : Below B w w'
  keep : ∀ k, k < w.heap.size → k ≠ g → some k ≠ a.map (·.block) → w'.heap[k]? = w.heap[k]?
  new : ∀ k, a'.map (·.block) = some k → a.map (·.block) = some k ∨ w.heap.size ≤ k
theorem GIs.below {B g : Nat} {a : Option Addr} {c : Nat} {l : List (Int × Int)} {w w' : World} (h : GIs B g a c l w) (hb : Below w.heap.size w w') : GIs B g a c l w' :=
  ⟨(hb.block g (Array.getElem?_eq_some_iff.1 h.hd).1).trans h.hd, owns_below h.row hb (Nat.le_refl _)⟩
theorem GIs.mono {B B' g : Nat} {a : Option Addr} {c : Nat} {l : List (Int × Int)} {w : World} (h : GIs B g a c l w) (hb : B' ≤ B) : GIs B' g a c l w := ⟨h.hd, owns_mono h.row hb⟩
theorem GStep.of_below {B g : Nat} {a : Option Addr} {w w' : World} (h : Below w.heap.size w w') (hB : B ≤ w.heap.size) : GStep B g a a w w' := ⟨h.mono hB, fun k hk _ _ => h.block k hk, fun _ h => .inl h⟩
theorem GStep.trans {B g : Nat} {a b c : Option Addr} {w1 w2 w3 : World} (h : GStep B g a b w1 w2) (k : GStep B g b c w2 w3) : GStep B g a c w1 w3 :=
  ⟨h.below.trans k.below, fun x hx hg ha => by
    have hs := h.below.size
    rw [k.keep x (by omega) hg (fun e => by rcases h.new x e.symm with e | e; exact ha e.symm; omega), h.keep x hx hg ha],
   fun x hx => by
    have hs := h.below.size
    rcases k.new x hx with e | e
    · exact h.new x e
    · exact .inr (by omega)⟩
theorem GIs.slice {B g : Nat} {a : Option Addr} {c : Nat} {l : List (Int × Int)} {w : World} (h : GIs B g a c l w) : l.length ≤ c ∧ c ≤ maxLen ∧ (a = none → c = 0) := by
  obtain ⟨a', c', he, h1, h2, h3⟩ := owns_slice h.row
  injection he with e1 e2 e3
  subst e1 e3
  exact ⟨h1, h2, h3⟩
theorem GIs.has {B g : Nat} {a : Option Addr} {c : Nat} {l : List (Int × Int)} {w : World} (h : GIs B g a c l w) : Has w a (gv l) := has_of_owns h.row
/-- What is read elsewhere stays. -/
theorem GStep.has {B g : Nat} {a a' b : Option Addr} {w w' : World} (h : GStep B g a a' w w') {xs : List Value} (hx : Has w b xs) (hg : ∀ p, b = some p → p.block ≠ g) (ha : ∀ p q, b = some p → a = some q → p.block ≠ q.block) : Has w' b xs := by
  intro j u hu
  obtain ⟨p, hp, hc⟩ := hx j u hu
  refine ⟨p, hp, ?_⟩
  have hlt := cell_lt hc
  rw [add_block] at hlt
  rw [World.cell?_of_block (w := w) ?_]
  · exact hc
  · rw [add_block]
    exact h.keep _ hlt (hg p hp) (fun e => by
      cases a with
      | none => cases e
      | some q => injection e with e; exact ha p q hp rfl e)
theorem GStep.owns {B g : Nat} {a a' : Option Addr} {w w' : World} (h : GStep B g a a' w w') {base e size n : Nat} {v : Value} {xs : List Value} (ho : w.ownsRow base e size v n xs) (hg : some g ≠ v.ownBlock) (ha : ∀ q, a = some q → some q.block ≠ v.ownBlock) : w'.ownsRow base e size v n xs := by
  refine ⟨ho.1, ?_⟩
  rcases ho.2 with k | ⟨k, cap, cur, hv, hk, hh, r⟩
  · exact .inl k
  · refine .inr ⟨k, cap, cur, hv, hk, ?_, r⟩
    have he : v.ownBlock = some k := by rw [hv]; rfl
    rw [h.keep k (Array.getElem?_eq_some_iff.1 hh).1 (fun e => hg (by rw [he, e])) (fun e => by
      cases a with
      | none => cases e
      | some q => injection e with e; exact ha q rfl (by rw [he, e]))]
    exact hh

/-- 'copy' between rows of elements of k cells: all is read before anything is written. -/
theorem run_copyK {P : Program} (w : World) (dT sT ty elem : TypeId) (k b o dLen dCap : Nat) (a : Addr) (sLen sCap : Nat) (cs : List Value)
    (hu : P.underlying dT = some (.slice elem)) (hs : (P.info? elem).map (·.size) = some k) (hn : cs.length = Nat.min sLen dLen * k)
    (hsrc : ∀ j v, cs[j]? = some v → w.cell? (a.add j) = some v) (hc : ∀ j, j < cs.length → (w.cell? ⟨b, o + j, none⟩).isSome = true) (hf : ∀ j, j < cs.length → w.frozen? ⟨b, o + j, none⟩ = false) (h1 : ∀ v ∈ cs, v.oneCell' = true) :
    (Builtin.copy_ #[dT, sT] ty #[.slice (some ⟨b, o, none⟩) dLen dCap, .slice (some a) sLen sCap]).run P w = .ok (goInt (Nat.min sLen dLen)) (w.setCells b o cs) := by
  have hl := run_loadCells_list (P := P) w a cs hsrc
  have hst := run_storeCells_cells (P := P) b o cs 0 w (by simpa using hc) (by simpa using hf) h1
  cases hq : P.info? elem with
  | none => simp [hq] at hs
  | some i =>
    have hi : i.size = k := by simpa [hq] using hs
    simp [Builtin.copy_, run_underlying hu, Builtin.lenOf, Builtin.firstCells, sizeOf, typeInfo, hq, hi, ← hn, hl, hst]
end Go.Proofs.YthjnpfhcjacibaaDoor
end
