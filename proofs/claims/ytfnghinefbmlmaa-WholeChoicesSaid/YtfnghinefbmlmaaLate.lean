
/- As Last, where an operation that changes what was read comes behind all that look, and others come behind it, one by one. No condition of its own. -/
import Derived.Test.YtfnghinefbmlmaaLast
namespace Go.Proofs.Ytfnghinefbmlmaa
open Go.RowKit

section
variable {P : Program} {ops : Array Oper} {Q : Exit → Act → World → Prop} {S : World → Prop} {md : Region.Mode} {z : Nat}

def wpLate (P : Program) (md : Region.Mode) (ops : Array Oper) (Q : Exit → Act → World → Prop) (z : Nat) (S : World → Prop) : Nat → Array Bool → Act → World → Prop
  | 0, L, a, w => Region.ready md ops L = [] ∧ Q .normal a w
  | n + 1, L, a, w => (Region.ready md ops L = [] → Q .normal a w) ∧ ∀ i ∈ Region.ready md ops L, wpOp P ops Q i (fun b v => ((L.getD z false = true ∨ i = z) ∨ S v) ∧ wpLate P md ops Q z S n (L.setIfInBounds i true) b v) a w
theorem wpAny_of_late : ∀ (n : Nat) (L : Array Bool) (a : Act) (w : World), wpLate P md ops Q z S n L a w → wpAny P md ops Q n L a w
  | 0, _, _, _, h => h
  | n + 1, _, _, _, h => ⟨h.1, fun i hi => wpOp_mono (fun b v g => wpAny_of_late n _ b v g.2) (h.2 i hi)⟩
theorem closed_has {L : Array Bool} {i : Nat} (hz : z < ops.size) (hc : Closed md ops L) (hw : Waits md ops z i) (h : L.getD z false = true) : L.getD i false = true := by
  have hoz := Array.getElem?_eq_getElem hz
  rcases hw with hw | ⟨k, hk, h1, h2⟩ | ⟨k, m, hk, hm, h1, h2, h3⟩
  · obtain ⟨e, he, hb, rfl⟩ := hw _ hoz
    exact hc _ _ hoz h e he hb
  · obtain ⟨e, he, hb, rfl⟩ := h1 _ hoz
    have hk' := hc _ _ hoz h e he hb
    have hok := Array.getElem?_eq_getElem hk
    obtain ⟨e', he', hb', rfl⟩ := h2 _ hok
    exact hc _ _ hok hk' e' he' hb'
  · obtain ⟨e, he, hb, rfl⟩ := h1 _ hoz
    have hk' := hc _ _ hoz h e he hb
    have hok := Array.getElem?_eq_getElem hk
    obtain ⟨e', he', hb', rfl⟩ := h2 _ hok
    have hm' := hc _ _ hok hk' e' he' hb'
    have hom := Array.getElem?_eq_getElem hm
    obtain ⟨e2, he2, hb2, rfl⟩ := h3 _ hom
    exact hc _ _ hom hm' e2 he2 hb2
/-- What looks may be taken first. -/
theorem wpLate_first {i : Nat} {oi : Oper} {v : Value} (hi : ops[i]? = some oi) (hs : Region.noSelect ops = true) (hQ : ∀ c a w, Q (.panic c) (a.put oi.dst v) w → Q (.panic c) a w) (hz : z < ops.size) (hiz : i ≠ z) (hwz : Waits md ops z i) :
    ∀ (n : Nat) (L : Array Bool) (a : Act) (w : World), Closed md ops L →
      (∀ j oj, ops[j]? = some oj → j ≠ i → L.getD j true = false → (∀ e ∈ oj.after, Region.binds md e = true → e.on ≠ i) → oi.apart ops oj = true) →
      i ∈ Region.ready md ops L → YieldsIf P ops S oi v a → S w → wpLate P md ops Q z S n (L.setIfInBounds i true) (a.put oi.dst v) w → wpLate P md ops Q z S (n + 1) L a w
  | 0, L, a, w, _, _, hr, hy, hS, H => by
    refine ⟨fun h => (by rw [h] at hr; cases hr), fun j hj => ?_⟩
    by_cases hji : j = i
    · subst hji; exact hy.wpOp hi hS ⟨.inr hS, H⟩
    · have := ready_mono hj hji
      rw [H.1] at this; cases this
  | n + 1, L, a, w, hc, hfree, hr, hy, hS, H => by
    refine ⟨fun h => (by rw [h] at hr; cases hr), fun j hj => ?_⟩
    by_cases hji : j = i
    · subst hji; exact hy.wpOp hi hS ⟨.inr hS, H⟩
    have hjz : j ≠ z := fun h => not_ready_of_waits hc hwz hr (h ▸ hj)
    obtain ⟨hjL, oj, hoj, hall⟩ := mem_ready.1 hj
    have hno : ∀ e ∈ oj.after, Region.binds md e = true → e.on ≠ i := fun e he hb heq => by
      have h1 := hall e he hb
      have h0 := (mem_ready.1 hr).1
      rw [heq] at h1
      rcases Nat.lt_or_ge i L.size with g | g
      · simp [g] at h0 h1; rw [h0] at h1; cases h1
      · simp [Array.getElem?_eq_none g] at h1
    have key := wpOp_putIf hoj (hfree j oj hoj hji hjL hno) (fun cs b => Region.noSelect_spec hs i oi cs b hi) (fun cs b => Region.noSelect_spec hs j oj cs b hoj) hQ hy (H.2 j (ready_mono hj hji))
    refine wpOp_mono (fun b u g => ?_) key
    have hSu : S u := g.2.1.resolve_left fun h => by
      rcases h with h | h
      · rw [getD_set_ne false hiz] at h
        exact not_both (mem_ready.1 hr).1 (closed_has hz hc hwz h)
      · exact hjz h
    refine ⟨.inr hSu, wpLate_first hi hs hQ hz hiz hwz n _ b u (hc.put hj) (fun k ok hk hki hkL hkn => hfree k ok hk hki ?_ hkn) (ready_mono hr (Ne.symm hji)) g.1 hSu ?_⟩
    · by_cases hjk : j = k
      · subst hjk; exact hjL
      · rw [getD_set_ne true hjk] at hkL; exact hkL
    · rw [Array.setIfInBounds_comm _ _ hji]
      exact g.2.2

def wpTail (P : Program) (ops : Array Oper) (Q : Exit → Act → World → Prop) : List Nat → Act → World → Prop
  | [], a, w => Q .normal a w
  | i :: r, a, w => match ops[i]? with
    | none => False
    | some o => if Region.wanted o (yielded ops a.tmps) = true then o.wp P a w (fun a' w' => wpTail P ops Q r a' w') Q else wpTail P ops Q r (a.put o.dst undef) w
def tailB (ops : Array Oper) : List Nat → Array Bool → Bool
  | [], L => (Region.ready .any ops L).isEmpty
  | i :: r, L => decide (Region.ready .any ops L = [i]) && tailB ops r (L.setIfInBounds i true)
theorem late_tail : ∀ (tl : List Nat) (L : Array Bool) (a : Act) (w : World), L.getD z false = true → tailB ops tl L = true → wpTail P ops Q tl a w → wpLate P .any ops Q z S tl.length L a w
  | [], L, a, w, _, hB, h => ⟨by simpa [tailB] using hB, h⟩
  | i :: r, L, a, w, hz, hB, h => by
    simp only [tailB, Bool.and_eq_true, decide_eq_true_eq] at hB
    obtain ⟨hready, hB2⟩ := hB
    simp only [wpTail] at h
    refine ⟨fun h0 => (by rw [h0] at hready; cases hready), fun j hj => ?_⟩
    obtain rfl : j = i := by rw [hready] at hj; simpa using hj
    cases ho : ops[j]? with
    | none => rw [ho] at h; exact h.elim
    | some o =>
      rw [ho] at h
      simp only at h
      by_cases hw : Region.wanted o (yielded ops a.tmps) = true
      · rw [if_pos hw] at h
        refine wpOp_run ho hw (Oper.wp_mono (fun a' w' g => ⟨.inl (.inl hz), late_tail r _ _ _ (getD_set_true hz) hB2 g⟩) h)
      · rw [if_neg hw] at h
        exact wpOp_skip ho hw ⟨.inl (.inl hz), late_tail r _ _ _ (getD_set_true hz) hB2 h⟩
def wpQui (P : Program) (ops : Array Oper) (Q : Exit → Act → World → Prop) (z : Nat) (tl : List Nat) (S : World → Prop) : List Nat → Act → World → Prop
  | [], a, w => wpTail P ops Q (z :: tl) a w
  | i :: r, a, w => match ops[i]? with
    | none => False
    | some o => if Region.wanted o (yielded ops a.tmps) = true then ∃ v, (∀ w', S w' → (execOp a.eval o).run P w' = .ok (.value v) w') ∧ wpQui P ops Q z tl S r (a.put o.dst v) w else wpQui P ops Q z tl S r (a.put o.dst undef) w
def waitsB (ops : Array Oper) (z i : Nat) : Bool := i != z && (dirB ops z i || ((List.range ops.size).any fun k => dirB ops z k && dirB ops k i) || (List.range ops.size).any fun k => dirB ops z k && (List.range ops.size).any fun m => dirB ops k m && dirB ops m i)
theorem waits_of {i : Nat} (h : waitsB ops z i = true) : i ≠ z ∧ Waits .any ops z i := by
  simp only [waitsB, Bool.and_eq_true, Bool.or_eq_true, bne_iff_ne] at h
  obtain ⟨hne, h⟩ := h
  refine ⟨hne, ?_⟩
  rcases h with (h | h) | h
  · exact .inl (dir_of h)
  · obtain ⟨k, hk, hb⟩ := List.any_eq_true.1 h
    simp only [Bool.and_eq_true] at hb
    exact .inr (.inl ⟨k, List.mem_range.1 hk, dir_of hb.1, dir_of hb.2⟩)
  · obtain ⟨k, hk, hb⟩ := List.any_eq_true.1 h
    simp only [Bool.and_eq_true] at hb
    obtain ⟨m, hm, hb2⟩ := List.any_eq_true.1 hb.2
    simp only [Bool.and_eq_true] at hb2
    exact .inr (.inr ⟨k, m, List.mem_range.1 hk, List.mem_range.1 hm, dir_of hb.1, dir_of hb2.1, dir_of hb2.2⟩)
def quiB (ops : Array Oper) (z : Nat) (tl : List Nat) : List Nat → Array Bool → Bool
  | [], L => decide (z < L.size) && decide (Region.ready .any ops L = [z]) && tailB ops tl (L.setIfInBounds z true)
  | i :: r, L => (match ops[i]? with
    | some o => (Region.ready .any ops L).contains i && Region.free .any ops L i && waitsB ops z i
    | none => false) && quiB ops z tl r (L.setIfInBounds i true)
theorem late_of_qui (hs : Region.noSelect ops = true) (hz : z < ops.size) (hQ : ∀ (c : List PanicEntry) (a : Act) (d : Option Tmp) (v : Value) (w : World), Q (.panic c) (a.put d v) w → Q (.panic c) a w) (tl : List Nat) :
    ∀ (qs : List Nat) (L : Array Bool) (a : Act) (w : World), Closed .any ops L → quiB ops z tl qs L = true → S w → wpQui P ops Q z tl S qs a w → wpLate P .any ops Q z S (qs.length + (tl.length + 1)) L a w
  | [], L, a, w, hc, hB, hS, h => by
    simp only [quiB, Bool.and_eq_true, decide_eq_true_eq] at hB
    obtain ⟨⟨hzL, hready⟩, hB2⟩ := hB
    simp only [wpQui, wpTail] at h
    rw [List.length_nil, Nat.zero_add]
    have hzt : (L.setIfInBounds z true).getD z false = true := by simp [Array.getD_eq_getD_getElem?, hzL]
    refine ⟨fun h0 => (by rw [h0] at hready; cases hready), fun j hj => ?_⟩
    obtain rfl : j = z := by rw [hready] at hj; simpa using hj
    cases ho : ops[j]? with
    | none => rw [ho] at h; exact h.elim
    | some o =>
      rw [ho] at h
      simp only at h
      by_cases hw : Region.wanted o (yielded ops a.tmps) = true
      · rw [if_pos hw] at h
        refine wpOp_run ho hw (Oper.wp_mono (fun a' w' g => ⟨.inl (.inr rfl), late_tail tl _ _ _ hzt hB2 g⟩) h)
      · rw [if_neg hw] at h
        exact wpOp_skip ho hw ⟨.inl (.inr rfl), late_tail tl _ _ _ hzt hB2 h⟩
  | i :: r, L, a, w, hc, hB, hS, h => by
    simp only [quiB, Bool.and_eq_true] at hB
    obtain ⟨hB1, hB2⟩ := hB
    simp only [wpQui] at h
    rw [List.length_cons, show r.length + 1 + (tl.length + 1) = (r.length + (tl.length + 1)) + 1 by omega]
    cases ho : ops[i]? with
    | none => rw [ho] at h; exact h.elim
    | some o =>
      rw [ho] at h hB1
      simp only [Bool.and_eq_true] at h hB1
      have hready : i ∈ Region.ready .any ops L := by simpa using hB1.1.1
      obtain ⟨hne, hwt⟩ := waits_of hB1.2
      by_cases hw : Region.wanted o (yielded ops a.tmps) = true
      · rw [if_pos hw] at h
        obtain ⟨v, hv, h'⟩ := h
        exact wpLate_first ho hs (fun c a w => hQ c a _ _ w) hz hne hwt _ L a w hc (Region.free_spec ho hB1.1.2) hready (.inl ⟨hw, hv⟩) hS (late_of_qui hs hz hQ tl r _ _ _ (hc.put hready) hB2 hS h')
      · rw [if_neg hw] at h
        exact wpLate_first ho hs (fun c a w => hQ c a _ _ w) hz hne hwt _ L a w hc (Region.free_spec ho hB1.1.2) hready (.inr ⟨by simpa using hw, rfl⟩) hS (late_of_qui hs hz hQ tl r _ _ _ (hc.put hready) hB2 hS h)
theorem anyH_of_any : ∀ (n : Nat) (L : Array Bool) (a : Act) (w : World), wpAny P md ops Q n L a w → wpAnyH P md ops Q (fun _ => True) n L a w
  | 0, _, _, _, h => h
  | n + 1, _, _, _, h => ⟨h.1, fun i hi => wpOp_mono (fun b v g => ⟨trivial, anyH_of_any n _ b v g⟩) (h.2 i hi)⟩
/-- Ahead of all: what looks at no memory. -/
def wpPre (P : Program) (ops : Array Oper) (Q : Exit → Act → World → Prop) (z : Nat) (tl : List Nat) (S : World → Prop) (qs : List Nat) : List Nat → Act → World → Prop
  | [], a, w => wpQui P ops Q z tl S qs a w
  | i :: r, a, w => match ops[i]? with
    | none => False
    | some o => Region.wanted o (yielded ops a.tmps) = true ∧ ∃ v, (∀ w', (fun _ : World => True) w' → (execOp a.eval o).run P w' = .ok (.value v) w') ∧ wpPre P ops Q z tl S qs r (a.put o.dst v) w
def preB (ops : Array Oper) (z : Nat) (tl qs : List Nat) : List Nat → Array Bool → Bool
  | [], L => quiB ops z tl qs L
  | i :: r, L => (match ops[i]? with
    | some o => (Region.ready .any ops L).contains i && Region.free .any ops L i
    | none => false) && preB ops z tl qs r (L.setIfInBounds i true)
theorem anyH_of_pre (hs : Region.noSelect ops = true) (hz : z < ops.size) (hQ : ∀ (c : List PanicEntry) (a : Act) (d : Option Tmp) (v : Value) (w : World), Q (.panic c) (a.put d v) w → Q (.panic c) a w) (tl qs : List Nat) :
    ∀ (ms : List Nat) (L : Array Bool) (a : Act) (w : World), Closed .any ops L → preB ops z tl qs ms L = true → S w → wpPre P ops Q z tl S qs ms a w → wpAnyH P .any ops Q (fun _ => True) (ms.length + (qs.length + (tl.length + 1))) L a w
  | [], L, a, w, hc, hB, hS, h => by
    rw [List.length_nil, Nat.zero_add]
    exact anyH_of_any _ _ _ _ (wpAny_of_late _ _ _ _ (late_of_qui hs hz hQ tl qs _ a w hc hB hS h))
  | i :: r, L, a, w, hc, hB, hS, h => by
    simp only [preB, Bool.and_eq_true] at hB
    obtain ⟨hB1, hB2⟩ := hB
    simp only [wpPre] at h
    rw [List.length_cons, show r.length + 1 + (qs.length + (tl.length + 1)) = (r.length + (qs.length + (tl.length + 1))) + 1 by omega]
    cases ho : ops[i]? with
    | none => rw [ho] at h; exact h.elim
    | some o =>
      rw [ho] at h hB1
      simp only [Bool.and_eq_true] at h hB1
      have hready : i ∈ Region.ready .any ops L := by simpa using hB1.1
      obtain ⟨hw, v, hv, h'⟩ := h
      exact wpAnyH_first ho (Region.noSelect_spec hs) (fun c a w => hQ c a _ _ w) _ L a w (Region.free_spec ho hB1.2) hready (.inl ⟨hw, hv⟩) trivial (anyH_of_pre hs hz hQ tl qs r _ _ _ (hc.put hready) hB2 hS h')
theorem wp_region_late {id : Nat} {a : Act} {w : World} {l : List Oper} (ms qs : List Nat) (z : Nat) (tl : List Nat) (hm : P.follows .mixedOrders = true) (hs : Region.noSelect l.toArray = true) (hz : decide (z < l.toArray.size) = true) (hlen : decide (l.toArray.size = ms.length + (qs.length + (tl.length + 1))) = true)
    (hB : preB l.toArray z tl qs ms (Array.replicate l.toArray.size false) = true)
    (hQ : ∀ (c : List PanicEntry) (a : Act) (d : Option Tmp) (v : Value) (w : World), Q (.panic c) (a.put d v) w → Q (.panic c) a w) (S : World → Prop) (hS : S w.drew)
    (h : wpPre P l.toArray Q z tl S qs ms a w.drew) : (Code.region id l.toArray true).wp P Q a w := by
  refine wp_region_held (S := fun _ => True) hm ?_
  have := anyH_of_pre hs (of_decide_eq_true hz) hQ tl qs ms _ a w.drew (closed_start _) hB hS h
  rw [of_decide_eq_true hlen]
  rw [of_decide_eq_true hlen] at this
  exact this
theorem pre_nil {tl qs : List Nat} {a : Act} {w : World} (h : wpQui P ops Q z tl S qs a w) : wpPre P ops Q z tl S qs [] a w := h
theorem pre_step {tl qs : List Nat} {i : Nat} {r : List Nat} {a : Act} {w : World} {o : Oper} (ho : ops[i]? = some o) (hq : quietOp o.op = true) (hw : Region.wanted o (yielded ops a.tmps) = true)
    (h : ∀ K : Act → Prop, (∀ a, wpPre P ops Q z tl S qs r a w → K a) → o.quiet P a (fun _ => True) K) : wpPre P ops Q z tl S qs (i :: r) a w := by
  obtain ⟨v, h1, h2⟩ := h _ (fun _ h => h)
  simp only [wpPre, ho]
  exact ⟨hw, v, fun w' hw' => quiet_value hq (h1 w' hw'), h2⟩
theorem qui_nil {tl : List Nat} {a : Act} {w : World} (h : wpTail P ops Q (z :: tl) a w) : wpQui P ops Q z tl S [] a w := h
theorem qui_step {tl : List Nat} {i : Nat} {r : List Nat} {a : Act} {w : World} {o : Oper} (ho : ops[i]? = some o) (hq : quietOp o.op = true) (hw : Region.wanted o (yielded ops a.tmps) = true)
    (h : ∀ K : Act → Prop, (∀ a, wpQui P ops Q z tl S r a w → K a) → o.quiet P a S K) : wpQui P ops Q z tl S (i :: r) a w := by
  obtain ⟨v, h1, h2⟩ := h _ (fun _ h => h)
  simp only [wpQui, ho]
  rw [if_pos hw]
  exact ⟨v, fun w' hw' => quiet_value hq (h1 w' hw'), h2⟩
theorem tail_nil {a : Act} {w : World} (h : Q .normal a w) : wpTail P ops Q [] a w := h
theorem tail_run {i : Nat} {r : List Nat} {a : Act} {w : World} {o : Oper} (ho : ops[i]? = some o) (hw : Region.wanted o (yielded ops a.tmps) = true)
    (h : ∀ K : Act → World → Prop, (∀ a w, wpTail P ops Q r a w → K a w) → o.wp P a w K Q) : wpTail P ops Q (i :: r) a w := by
  simp only [wpTail, ho]
  rw [if_pos hw]
  exact h _ fun _ _ h1 => h1
end
attribute [irreducible] wpQui wpTail wpPre
end Go.Proofs.Ytfnghinefbmlmaa
