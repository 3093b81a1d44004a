/- Joined from: Last. -/
import Derived.Test.YtbicnkopmamnpaaJ01
section

/- As Tree, where the last operation (one that waits for all others) may leave the class of worlds: what it stores may have been read ahead of it. No condition of its own. -/
namespace Go.Proofs.Ytbicnkopmamnpaa
open Go.RowKit

section
variable {P : Program} {ops : Array Oper} {Q : Exit → Act → World → Prop} {S : World → Prop} {md : Region.Mode} {z : Nat}

/-- Whatever order comes, the class is kept behind every operation but number z. -/
def wpBut (P : Program) (md : Region.Mode) (ops : Array Oper) (Q : Exit → Act → World → Prop) (z : Nat) (S : World → Prop) : Nat → Array Bool → Act → World → Prop
  | 0, L, a, w => Region.ready md ops L = [] ∧ Q .normal a w
  | n + 1, L, a, w => (Region.ready md ops L = [] → Q .normal a w) ∧ ∀ i ∈ Region.ready md ops L, wpOp P ops Q i (fun b v => (i = z ∨ S v) ∧ wpBut P md ops Q z S n (L.setIfInBounds i true) b v) a w
theorem wpAny_of_but : ∀ (n : Nat) (L : Array Bool) (a : Act) (w : World), wpBut P md ops Q z S n L a w → wpAny P md ops Q n L a w
  | 0, _, _, _, h => h
  | n + 1, _, _, _, h => ⟨h.1, fun i hi => wpOp_mono (fun b v g => wpAny_of_but n _ b v g.2) (h.2 i hi)⟩
theorem wpBut_class {S' : World → Prop} (hSS : ∀ w, S' w → S w) : ∀ (n : Nat) (L : Array Bool) (a : Act) (w : World), wpBut P md ops Q z S' n L a w → wpBut P md ops Q z S n L a w
  | 0, _, _, _, h => h
  | n + 1, _, _, _, h => ⟨h.1, fun i hi => wpOp_mono (fun b v g => ⟨g.1.imp id (hSS v), wpBut_class hSS n _ b v g.2⟩) (h.2 i hi)⟩
/-- Number z waits for number i itself. -/
def Dir (md : Region.Mode) (ops : Array Oper) (z i : Nat) : Prop := ∀ oz, ops[z]? = some oz → ∃ e ∈ oz.after, Region.binds md e = true ∧ e.on = i
/-- Number z waits for number i, itself or by another one, or two. -/
def Waits (md : Region.Mode) (ops : Array Oper) (z i : Nat) : Prop := Dir md ops z i ∨ (∃ k, k < ops.size ∧ Dir md ops z k ∧ Dir md ops k i) ∨ ∃ k m, k < ops.size ∧ m < ops.size ∧ Dir md ops z k ∧ Dir md ops k m ∧ Dir md ops m i
/-- Whatever has come, all that it waits for has come. -/
def Closed (md : Region.Mode) (ops : Array Oper) (L : Array Bool) : Prop := ∀ (j : Nat) (oj : Oper), ops[j]? = some oj → L.getD j false = true → ∀ e ∈ oj.after, Region.binds md e = true → L.getD e.on false = true
theorem Closed.put {L : Array Bool} {j : Nat} (hc : Closed md ops L) (hj : j ∈ Region.ready md ops L) : Closed md ops (L.setIfInBounds j true) := fun k ok hk hL e he hb => by
  obtain ⟨_, oj, ho, hall⟩ := mem_ready.1 hj
  by_cases hjk : j = k
  · subst hjk
    rw [ho] at hk; cases hk
    exact getD_set_true (hall e he hb)
  · rw [getD_set_ne false hjk] at hL
    exact getD_set_true (hc k ok hk hL e he hb)
theorem closed_start (n : Nat) : Closed md ops (Array.replicate n false) := fun j oj _ h => by
  simp only [Array.getD_eq_getD_getElem?, Array.getElem?_replicate] at h
  split at h <;> simp at h
theorem not_both {L : Array Bool} {i : Nat} (h0 : L.getD i true = false) (h1 : L.getD i false = true) : False := by
  rcases Nat.lt_or_ge i L.size with g | g
  · simp [g] at h0 h1; rw [h0] at h1; cases h1
  · simp [Array.getElem?_eq_none g] at h1
theorem not_ready_of_waits {L : Array Bool} {i : Nat} (hc : Closed md ops L) (hw : Waits md ops z i) (hi : i ∈ Region.ready md ops L) : z ∉ Region.ready md ops L := fun hz => by
  obtain ⟨_, oz, ho, hall⟩ := mem_ready.1 hz
  rcases hw with hw | ⟨k, hk, h1, h2⟩ | ⟨k, m, hk, hm, h1, h2, h3⟩
  · obtain ⟨e, he, hb, rfl⟩ := hw oz ho
    exact not_both (mem_ready.1 hi).1 (hall e he hb)
  · obtain ⟨e, he, hb, rfl⟩ := h1 oz ho
    have hok := Array.getElem?_eq_getElem hk
    obtain ⟨e', he', hb', rfl⟩ := h2 _ hok
    exact not_both (mem_ready.1 hi).1 (hc _ _ hok (hall e he hb) e' he' hb')
  · obtain ⟨e, he, hb, rfl⟩ := h1 oz ho
    have hok := Array.getElem?_eq_getElem hk
    obtain ⟨e', he', hb', rfl⟩ := h2 _ hok
    have hom := Array.getElem?_eq_getElem hm
    obtain ⟨e2, he2, hb2, rfl⟩ := h3 _ hom
    exact not_both (mem_ready.1 hi).1 (hc _ _ hom (hc _ _ hok (hall e he hb) e' he' hb') e2 he2 hb2)
/-- What looks may be taken first. -/
theorem wpBut_first {i : Nat} {oi : Oper} {v : Value} (hi : ops[i]? = some oi) (hs : Region.noSelect ops = true) (hQ : ∀ c a w, Q (.panic c) (a.put oi.dst v) w → Q (.panic c) a w) (hiz : i ≠ z) (hwz : Waits md ops z i) :
    ∀ (n : Nat) (L : Array Bool) (a : Act) (w : World), Closed md ops L →
      (∀ j oj, ops[j]? = some oj → j ≠ i → L.getD j true = false → (∀ e ∈ oj.after, Region.binds md e = true → e.on ≠ i) → oi.apart ops oj = true) →
      i ∈ Region.ready md ops L → YieldsIf P ops S oi v a → S w → wpBut P md ops Q z S n (L.setIfInBounds i true) (a.put oi.dst v) w → wpBut P md ops Q z S (n + 1) L a w
  | 0, L, a, w, _, _, hr, hy, hS, H => by
    refine ⟨fun h => (by rw [h] at hr; cases hr), fun j hj => ?_⟩
    by_cases hji : j = i
    · subst hji; exact hy.wpOp hi hS ⟨.inr hS, H⟩
    · have := ready_mono hj hji
      rw [H.1] at this; cases this
  | n + 1, L, a, w, hc, hfree, hr, hy, hS, H => by
    refine ⟨fun h => (by rw [h] at hr; cases hr), fun j hj => ?_⟩
    by_cases hji : j = i
    · subst hji; exact hy.wpOp hi hS ⟨.inr hS, H⟩
    have hjz : j ≠ z := fun h => not_ready_of_waits hc hwz hr (h ▸ hj)
    obtain ⟨hjL, oj, hoj, hall⟩ := mem_ready.1 hj
    have hno : ∀ e ∈ oj.after, Region.binds md e = true → e.on ≠ i := fun e he hb heq => by
      have h1 := hall e he hb
      have h0 := (mem_ready.1 hr).1
      rw [heq] at h1
      rcases Nat.lt_or_ge i L.size with g | g
      · simp [g] at h0 h1; rw [h0] at h1; cases h1
      · simp [Array.getElem?_eq_none g] at h1
    have key := wpOp_putIf hoj (hfree j oj hoj hji hjL hno) (fun cs b => Region.noSelect_spec hs i oi cs b hi) (fun cs b => Region.noSelect_spec hs j oj cs b hoj) hQ hy (H.2 j (ready_mono hj hji))
    refine wpOp_mono (fun b u g => ?_) key
    have hSu : S u := g.2.1.resolve_left hjz
    refine ⟨.inr hSu, wpBut_first hi hs hQ hiz hwz n _ b u (hc.put hj) (fun k ok hk hki hkL hkn => hfree k ok hk hki ?_ hkn) (ready_mono hr (Ne.symm hji)) g.1 hSu ?_⟩
    · by_cases hjk : j = k
      · subst hjk; exact hjL
      · rw [getD_set_ne true hjk] at hkL; exact hkL
    · rw [Array.setIfInBounds_comm _ _ hji]
      exact g.2.2

def wpTreeZ (P : Program) (ops : Array Oper) (Q : Exit → Act → World → Prop) (z : Nat) : (World → Prop) → Tree → Act → World → Prop
  | _, .nil, a, w => Q .normal a w
  | S, .step i r, a, w => match ops[i]? with
    | none => False
    | some o =>
      if Region.wanted o (yielded ops a.tmps) = true then
        (if quietOp o.op = true then ∃ v, (∀ w', S w' → (execOp a.eval o).run P w' = .ok (.value v) w') ∧ wpTreeZ P ops Q z S r (a.put o.dst v) w
         else o.wp P a w (fun a' w' => (i = z ∨ S w') ∧ wpTreeZ P ops Q z S r a' w') Q)
      else wpTreeZ P ops Q z S r (a.put o.dst undef) w
  | _, .two _ _ _ _, _, _ => False
  | S, .narrow r, a, w => ∃ S' : World → Prop, (∀ w, S' w → S w) ∧ S' w ∧ wpTreeZ P ops Q z S' r a w
def dirB (ops : Array Oper) (z i : Nat) : Bool := match ops[z]? with
  | some oz => oz.after.any fun e => Region.binds .any e && e.on == i
  | none => false
theorem dir_of {ops : Array Oper} {z i : Nat} (h : dirB ops z i = true) : Dir .any ops z i := fun oz ho => by
  unfold dirB at h
  rw [ho] at h
  obtain ⟨k, hk, hb⟩ := Array.any_eq_true.1 h
  simp only [Bool.and_eq_true, beq_iff_eq] at hb
  exact ⟨oz.after[k], Array.getElem_mem hk, hb.1, hb.2⟩
/-- Number z comes at the very end of the chain, looks at nothing, and waits for all others. -/
def lastB (ops : Array Oper) (z : Nat) : Bool := match ops[z]? with
  | some oz => !quietOp oz.op && (List.range ops.size).all fun i => i == z || dirB ops z i || ((List.range ops.size).any fun k => dirB ops z k && dirB ops k i) || (List.range ops.size).any fun k => dirB ops z k && (List.range ops.size).any fun m => dirB ops k m && dirB ops m i
  | none => false
def endB (z : Nat) : Tree → Bool
  | .nil => true
  | .step i r => (i != z || (match r with | .nil => true | _ => false)) && endB z r
  | .two _ _ _ _ => false
  | .narrow r => endB z r
theorem wpBut_of_tree (hs : Region.noSelect ops = true) (hz : lastB ops z = true) (hQ : ∀ (c : List PanicEntry) (a : Act) (d : Option Tmp) (v : Value) (w : World), Q (.panic c) (a.put d v) w → Q (.panic c) a w) :
    ∀ (t : Tree) (S : World → Prop) (L : Array Bool) (a : Act) (w : World), Closed .any ops L → treeB ops t L = true → endB z t = true → S w → wpTreeZ P ops Q z S t a w → wpBut P .any ops Q z S t.deep L a w
  | .nil, S, L, a, w, _, hB, _, _, h => ⟨by simpa [treeB] using hB, h⟩
  | .narrow r, S, L, a, w, hc, hB, hE, hS, h => by
    simp only [wpTreeZ] at h
    obtain ⟨S', h1, h2, h3⟩ := h
    exact wpBut_class h1 _ _ _ _ (wpBut_of_tree hs hz hQ r S' L a w hc (by simpa [treeB] using hB) (by simpa [endB] using hE) h2 h3)
  | .two _ _ _ _, S, L, a, w, _, _, _, _, h => by simp only [wpTreeZ] at h
  | .step i r, S, L, a, w, hc, hB, hE, hS, h => by
    simp only [treeB, Bool.and_eq_true] at hB
    obtain ⟨hB1, hB2⟩ := hB
    simp only [endB, Bool.and_eq_true] at hE
    obtain ⟨hE1, hE2⟩ := hE
    simp only [wpTreeZ] at h
    cases ho : ops[i]? with
    | none => rw [ho] at h; exact h.elim
    | some o =>
      rw [ho] at h hB1
      simp only at h hB1
      have hiL : i < ops.size := (Array.getElem?_eq_some_iff.1 ho).1
      by_cases hq : quietOp o.op = true
      · rw [if_pos hq] at hB1
        simp only [Bool.and_eq_true] at hB1
        have hready : i ∈ Region.ready .any ops L := by simpa using hB1.1
        have hzz : i ≠ z ∧ Waits .any ops z i := by
          unfold lastB at hz
          cases hoz : ops[z]? with
          | none => rw [hoz] at hz; cases hz
          | some oz =>
            rw [hoz] at hz
            simp only [Bool.and_eq_true, Bool.not_eq_true', List.all_eq_true, List.mem_range, Bool.or_eq_true, beq_iff_eq] at hz
            have hne : i ≠ z := fun h => by
              subst h
              rw [ho] at hoz; cases hoz
              rw [hq] at hz; cases hz.1
            refine ⟨hne, ?_⟩
            rcases hz.2 i hiL with ((h | h) | h) | h
            · exact absurd h hne
            · exact .inl (dir_of h)
            · obtain ⟨k, hk, hb⟩ := List.any_eq_true.1 h
              simp only [Bool.and_eq_true] at hb
              exact .inr (.inl ⟨k, List.mem_range.1 hk, dir_of hb.1, dir_of hb.2⟩)
            · obtain ⟨k, hk, hb⟩ := List.any_eq_true.1 h
              simp only [Bool.and_eq_true] at hb
              obtain ⟨m, hm, hb2⟩ := List.any_eq_true.1 hb.2
              simp only [Bool.and_eq_true] at hb2
              exact .inr (.inr ⟨k, m, List.mem_range.1 hk, List.mem_range.1 hm, dir_of hb.1, dir_of hb2.1, dir_of hb2.2⟩)
        by_cases hw : Region.wanted o (yielded ops a.tmps) = true
        · rw [if_pos hw, if_pos hq] at h
          obtain ⟨v, hv, h'⟩ := h
          exact wpBut_first ho hs (fun c a w => hQ c a _ _ w) hzz.1 hzz.2 r.deep L a w hc (Region.free_spec ho hB1.2) hready (.inl ⟨hw, hv⟩) hS (wpBut_of_tree hs hz hQ r S _ _ _ (hc.put hready) hB2 hE2 hS h')
        · rw [if_neg hw] at h
          exact wpBut_first ho hs (fun c a w => hQ c a _ _ w) hzz.1 hzz.2 r.deep L a w hc (Region.free_spec ho hB1.2) hready (.inr ⟨by simpa using hw, rfl⟩) hS (wpBut_of_tree hs hz hQ r S _ _ _ (hc.put hready) hB2 hE2 hS h)
      · rw [if_neg hq] at hB1
        have hready : Region.ready .any ops L = [i] := by simpa using hB1
        refine ⟨fun h0 => (by rw [h0] at hready; cases hready), fun j hj => ?_⟩
        obtain rfl : j = i := by rw [hready] at hj; simpa using hj
        have hgo : ∀ b u, (j = z ∨ S u) → wpTreeZ P ops Q z S r b u → wpBut P .any ops Q z S r.deep (L.setIfInBounds j true) b u := fun b u hS' ht => by
          rcases hS' with hjz | hSu
          · subst hjz
            match r, hE1, hB2, ht with
            | .nil, _, hB2, ht => exact ⟨by simpa [treeB] using hB2, ht⟩
            | .step _ _, hE1, _, _ => simp at hE1
            | .two _ _ _ _, hE1, _, _ => simp at hE1
            | .narrow _, hE1, _, _ => simp at hE1
          · exact wpBut_of_tree hs hz hQ r S _ _ _ (hc.put hj) hB2 hE2 hSu ht
        by_cases hw : Region.wanted o (yielded ops a.tmps) = true
        · rw [if_pos hw, if_neg hq] at h
          refine wpOp_run ho hw ?_
          exact Oper.wp_mono (fun a' w' g => ⟨g.1, hgo a' w' g.1 g.2⟩) h
        · rw [if_neg hw] at h
          exact wpOp_skip ho hw ⟨.inr hS, hgo _ _ (.inr hS) h⟩

theorem wp_region_last {id : Nat} {a : Act} {w : World} {l : List Oper} (t : Tree) (z : Nat) (hm : P.follows .mixedOrders = true) (hs : Region.noSelect l.toArray = true) (hlen : decide (l.toArray.size = t.deep) = true)
    (hB : treeB l.toArray t (Array.replicate l.toArray.size false) = true) (hz : (lastB l.toArray z && endB z t) = true)
    (hQ : ∀ (c : List PanicEntry) (a : Act) (d : Option Tmp) (v : Value) (w : World), Q (.panic c) (a.put d v) w → Q (.panic c) a w) (S : World → Prop) (hS : S w.drew)
    (h : wpTreeZ P l.toArray Q z S t a w.drew) : (Code.region id l.toArray true).wp P Q a w := by
  simp only [Bool.and_eq_true] at hz
  refine wp_region_any hm ?_
  have := wpAny_of_but _ _ _ _ (wpBut_of_tree hs hz.1 hQ t S _ a w.drew (closed_start _) hB hz.2 hS h)
  rw [of_decide_eq_true hlen]
  rw [of_decide_eq_true hlen] at this
  exact this
theorem z_nil {a : Act} {w : World} (h : Q .normal a w) : wpTreeZ P ops Q z S .nil a w := h
theorem z_quiet {i : Nat} {r : Tree} {a : Act} {w : World} {o : Oper} (ho : ops[i]? = some o) (hq : quietOp o.op = true) (hw : Region.wanted o (yielded ops a.tmps) = true)
    (h : ∀ K : Act → Prop, (∀ a, wpTreeZ P ops Q z S r a w → K a) → o.quiet P a S K) : wpTreeZ P ops Q z S (.step i r) a w := by
  obtain ⟨v, h1, h2⟩ := h _ (fun _ h => h)
  simp only [wpTreeZ, ho]
  rw [if_pos hw, if_pos hq]
  exact ⟨v, fun w' hw' => quiet_value hq (h1 w' hw'), h2⟩
theorem z_run {i : Nat} {r : Tree} {a : Act} {w : World} {o : Oper} (ho : ops[i]? = some o) (hq : quietOp o.op = false) (hw : Region.wanted o (yielded ops a.tmps) = true)
    (h : ∀ K : Act → World → Prop, (∀ a w, S w → wpTreeZ P ops Q z S r a w → K a w) → o.wp P a w K Q) : wpTreeZ P ops Q z S (.step i r) a w := by
  simp only [wpTreeZ, ho]
  rw [if_pos hw, if_neg (by rw [hq]; exact Bool.false_ne_true)]
  exact h _ fun _ _ h1 h2 => ⟨.inr h1, h2⟩
theorem z_last {i : Nat} {r : Tree} {a : Act} {w : World} {o : Oper} (ho : ops[i]? = some o) (hq : quietOp o.op = false) (hw : Region.wanted o (yielded ops a.tmps) = true) (hz : i = z)
    (h : ∀ K : Act → World → Prop, (∀ a w, wpTreeZ P ops Q z S r a w → K a w) → o.wp P a w K Q) : wpTreeZ P ops Q z S (.step i r) a w := by
  simp only [wpTreeZ, ho]
  rw [if_pos hw, if_neg (by rw [hq]; exact Bool.false_ne_true)]
  exact h _ fun _ _ h2 => ⟨.inl hz, h2⟩
end
attribute [irreducible] wpTreeZ
end Go.Proofs.Ytbicnkopmamnpaa
end
