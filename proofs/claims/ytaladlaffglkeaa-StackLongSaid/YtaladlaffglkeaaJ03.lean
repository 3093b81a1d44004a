/- Joined from: Last LNum SFirst SEnd STake SPlace U16s Last2. -/
import Derived.Test.YtaladlaffglkeaaJ01
import Derived.Lib.BitFns
section

/- As Tree, where the last operation (one that waits for all others) may leave the class of worlds: what it stores may have been read ahead of it. No condition of its own. -/
namespace Go.Proofs.Ytaladlaffglkeaa
open Go.RowKit

section
variable {P : Program} {ops : Array Oper} {Q : Exit → Act → World → Prop} {S : World → Prop} {md : Region.Mode} {z : Nat}

/-- Whatever order comes, the class is kept behind every operation but number z. -/
def wpBut (P : Program) (md : Region.Mode) (ops : Array Oper) (Q : Exit → Act → World → Prop) (z : Nat) (S : World → Prop) : Nat → Array Bool → Act → World → Prop
  | 0, L, a, w => Region.ready md ops L = [] ∧ Q .normal a w
  | n + 1, L, a, w => (Region.ready md ops L = [] → Q .normal a w) ∧ ∀ i ∈ Region.ready md ops L, wpOp P ops Q i (fun b v => (i = z ∨ S v) ∧ wpBut P md ops Q z S n (L.setIfInBounds i true) b v) a w
theorem wpAny_of_but : ∀ (n : Nat) (L : Array Bool) (a : Act) (w : World), wpBut P md ops Q z S n L a w → wpAny P md ops Q n L a w
  | 0, _, _, _, h => h
  | n + 1, _, _, _, h => ⟨h.1, fun i hi => wpOp_mono (fun b v g => wpAny_of_but n _ b v g.2) (h.2 i hi)⟩
theorem wpBut_class {S' : World → Prop} (hSS : ∀ w, S' w → S w) : ∀ (n : Nat) (L : Array Bool) (a : Act) (w : World), wpBut P md ops Q z S' n L a w → wpBut P md ops Q z S n L a w
  | 0, _, _, _, h => h
  | n + 1, _, _, _, h => ⟨h.1, fun i hi => wpOp_mono (fun b v g => ⟨g.1.imp id (hSS v), wpBut_class hSS n _ b v g.2⟩) (h.2 i hi)⟩
/-- Number z waits for number i itself. -/
def Dir (md : Region.Mode) (ops : Array Oper) (z i : Nat) : Prop := ∀ oz, ops[z]? = some oz → ∃ e ∈ oz.after, Region.binds md e = true ∧ e.on = i
/-- Number z waits for number i, itself or by another one, or two. -/
def Waits (md : Region.Mode) (ops : Array Oper) (z i : Nat) : Prop := Dir md ops z i ∨ (∃ k, k < ops.size ∧ Dir md ops z k ∧ Dir md ops k i) ∨ ∃ k m, k < ops.size ∧ m < ops.size ∧ Dir md ops z k ∧ Dir md ops k m ∧ Dir md ops m i
/-- Whatever has come, all that it waits for has come. -/
def Closed (md : Region.Mode) (ops : Array Oper) (L : Array Bool) : Prop := ∀ (j : Nat) (oj : Oper), ops[j]? = some oj → L.getD j false = true → ∀ e ∈ oj.after, Region.binds md e = true → L.getD e.on false = true
theorem Closed.put {L : Array Bool} {j : Nat} (hc : Closed md ops L) (hj : j ∈ Region.ready md ops L) : Closed md ops (L.setIfInBounds j true) := fun k ok hk hL e he hb => by
  obtain ⟨_, oj, ho, hall⟩ := mem_ready.1 hj
  by_cases hjk : j = k
  · subst hjk
    rw [ho] at hk; cases hk
    exact getD_set_true (hall e he hb)
  · rw [getD_set_ne false hjk] at hL
    exact getD_set_true (hc k ok hk hL e he hb)
theorem closed_start (n : Nat) : Closed md ops (Array.replicate n false) := fun j oj _ h => by
  simp only [Array.getD_eq_getD_getElem?, Array.getElem?_replicate] at h
  split at h <;> simp at h
theorem not_both {L : Array Bool} {i : Nat} (h0 : L.getD i true = false) (h1 : L.getD i false = true) : False := by
  rcases Nat.lt_or_ge i L.size with g | g
  · simp [g] at h0 h1; rw [h0] at h1; cases h1
  · simp [Array.getElem?_eq_none g] at h1
theorem not_ready_of_waits {L : Array Bool} {i : Nat} (hc : Closed md ops L) (hw : Waits md ops z i) (hi : i ∈ Region.ready md ops L) : z ∉ Region.ready md ops L := fun hz => by
  obtain ⟨_, oz, ho, hall⟩ := mem_ready.1 hz
  rcases hw with hw | ⟨k, hk, h1, h2⟩ | ⟨k, m, hk, hm, h1, h2, h3⟩
  · obtain ⟨e, he, hb, rfl⟩ := hw oz ho
    exact not_both (mem_ready.1 hi).1 (hall e he hb)
  · obtain ⟨e, he, hb, rfl⟩ := h1 oz ho
    have hok := Array.getElem?_eq_getElem hk
    obtain ⟨e', he', hb', rfl⟩ := h2 _ hok
    exact not_both (mem_ready.1 hi).1 (hc _ _ hok (hall e he hb) e' he' hb')
  · obtain ⟨e, he, hb, rfl⟩ := h1 oz ho
    have hok := Array.getElem?_eq_getElem hk
    obtain ⟨e', he', hb', rfl⟩ := h2 _ hok
    have hom := Array.getElem?_eq_getElem hm
    obtain ⟨e2, he2, hb2, rfl⟩ := h3 _ hom
    exact not_both (mem_ready.1 hi).1 (hc _ _ hom (hc _ _ hok (hall e he hb) e' he' hb') e2 he2 hb2)
/-- What looks may be taken first. -/
theorem wpBut_first {i : Nat} {oi : Oper} {v : Value} (hi : ops[i]? = some oi) (hs : Region.noSelect ops = true) (hQ : ∀ c a w, Q (.panic c) (a.put oi.dst v) w → Q (.panic c) a w) (hiz : i ≠ z) (hwz : Waits md ops z i) :
    ∀ (n : Nat) (L : Array Bool) (a : Act) (w : World), Closed md ops L →
      (∀ j oj, ops[j]? = some oj → j ≠ i → L.getD j true = false → (∀ e ∈ oj.after, Region.binds md e = true → e.on ≠ i) → oi.apart ops oj = true) →
      i ∈ Region.ready md ops L → YieldsIf P ops S oi v a → S w → wpBut P md ops Q z S n (L.setIfInBounds i true) (a.put oi.dst v) w → wpBut P md ops Q z S (n + 1) L a w
  | 0, L, a, w, _, _, hr, hy, hS, H => by
    refine ⟨fun h => (by rw [h] at hr; cases hr), fun j hj => ?_⟩
    by_cases hji : j = i
    · subst hji; exact hy.wpOp hi hS ⟨.inr hS, H⟩
    · have := ready_mono hj hji
      rw [H.1] at this; cases this
  | n + 1, L, a, w, hc, hfree, hr, hy, hS, H => by
    refine ⟨fun h => (by rw [h] at hr; cases hr), fun j hj => ?_⟩
    by_cases hji : j = i
    · subst hji; exact hy.wpOp hi hS ⟨.inr hS, H⟩
    have hjz : j ≠ z := fun h => not_ready_of_waits hc hwz hr (h ▸ hj)
    obtain ⟨hjL, oj, hoj, hall⟩ := mem_ready.1 hj
    have hno : ∀ e ∈ oj.after, Region.binds md e = true → e.on ≠ i := fun e he hb heq => by
      have h1 := hall e he hb
      have h0 := (mem_ready.1 hr).1
      rw [heq] at h1
      rcases Nat.lt_or_ge i L.size with g | g
      · simp [g] at h0 h1; rw [h0] at h1; cases h1
      · simp [Array.getElem?_eq_none g] at h1
    have key := wpOp_putIf hoj (hfree j oj hoj hji hjL hno) (fun cs b => Region.noSelect_spec hs i oi cs b hi) (fun cs b => Region.noSelect_spec hs j oj cs b hoj) hQ hy (H.2 j (ready_mono hj hji))
    refine wpOp_mono (fun b u g => ?_) key
    have hSu : S u := g.2.1.resolve_left hjz
    refine ⟨.inr hSu, wpBut_first hi hs hQ hiz hwz n _ b u (hc.put hj) (fun k ok hk hki hkL hkn => hfree k ok hk hki ?_ hkn) (ready_mono hr (Ne.symm hji)) g.1 hSu ?_⟩
    · by_cases hjk : j = k
      · subst hjk; exact hjL
      · rw [getD_set_ne true hjk] at hkL; exact hkL
    · rw [Array.setIfInBounds_comm _ _ hji]
      exact g.2.2

def wpTreeZ (P : Program) (ops : Array Oper) (Q : Exit → Act → World → Prop) (z : Nat) : (World → Prop) → Tree → Act → World → Prop
  | _, .nil, a, w => Q .normal a w
  | S, .step i r, a, w => match ops[i]? with
    | none => False
    | some o =>
      if Region.wanted o (yielded ops a.tmps) = true then
        (if quietOp o.op = true then ∃ v, (∀ w', S w' → (execOp a.eval o).run P w' = .ok (.value v) w') ∧ wpTreeZ P ops Q z S r (a.put o.dst v) w
         else o.wp P a w (fun a' w' => (i = z ∨ S w') ∧ wpTreeZ P ops Q z S r a' w') Q)
      else wpTreeZ P ops Q z S r (a.put o.dst undef) w
  | _, .two _ _ _ _, _, _ => False
  | S, .narrow r, a, w => ∃ S' : World → Prop, (∀ w, S' w → S w) ∧ S' w ∧ wpTreeZ P ops Q z S' r a w
def dirB (ops : Array Oper) (z i : Nat) : Bool := match ops[z]? with
  | some oz => oz.after.any fun e => Region.binds .any e && e.on == i
  | none => false
theorem dir_of {ops : Array Oper} {z i : Nat} (h : dirB ops z i = true) : Dir .any ops z i := fun oz ho => by
  unfold dirB at h
  rw [ho] at h
  obtain ⟨k, hk, hb⟩ := Array.any_eq_true.1 h
  simp only [Bool.and_eq_true, beq_iff_eq] at hb
  exact ⟨oz.after[k], Array.getElem_mem hk, hb.1, hb.2⟩
/-- Number z comes at the very end of the chain, looks at nothing, and waits for all others. -/
def lastB (ops : Array Oper) (z : Nat) : Bool := match ops[z]? with
  | some oz => !quietOp oz.op && (List.range ops.size).all fun i => i == z || dirB ops z i || ((List.range ops.size).any fun k => dirB ops z k && dirB ops k i) || (List.range ops.size).any fun k => dirB ops z k && (List.range ops.size).any fun m => dirB ops k m && dirB ops m i
  | none => false
def endB (z : Nat) : Tree → Bool
  | .nil => true
  | .step i r => (i != z || (match r with | .nil => true | _ => false)) && endB z r
  | .two _ _ _ _ => false
  | .narrow r => endB z r
theorem wpBut_of_tree (hs : Region.noSelect ops = true) (hz : lastB ops z = true) (hQ : ∀ (c : List PanicEntry) (a : Act) (d : Option Tmp) (v : Value) (w : World), Q (.panic c) (a.put d v) w → Q (.panic c) a w) :
    ∀ (t : Tree) (S : World → Prop) (L : Array Bool) (a : Act) (w : World), Closed .any ops L → treeB ops t L = true → endB z t = true → S w → wpTreeZ P ops Q z S t a w → wpBut P .any ops Q z S t.deep L a w
  | .nil, S, L, a, w, _, hB, _, _, h => ⟨by simpa [treeB] using hB, h⟩
  | .narrow r, S, L, a, w, hc, hB, hE, hS, h => by
    simp only [wpTreeZ] at h
    obtain ⟨S', h1, h2, h3⟩ := h
    exact wpBut_class h1 _ _ _ _ (wpBut_of_tree hs hz hQ r S' L a w hc (by simpa [treeB] using hB) (by simpa [endB] using hE) h2 h3)
  | .two _ _ _ _, S, L, a, w, _, _, _, _, h => by simp only [wpTreeZ] at h
  | .step i r, S, L, a, w, hc, hB, hE, hS, h => by
    simp only [treeB, Bool.and_eq_true] at hB
    obtain ⟨hB1, hB2⟩ := hB
    simp only [endB, Bool.and_eq_true] at hE
    obtain ⟨hE1, hE2⟩ := hE
    simp only [wpTreeZ] at h
    cases ho : ops[i]? with
    | none => rw [ho] at h; exact h.elim
    | some o =>
      rw [ho] at h hB1
      simp only at h hB1
      have hiL : i < ops.size := (Array.getElem?_eq_some_iff.1 ho).1
      by_cases hq : quietOp o.op = true
      · rw [if_pos hq] at hB1
        simp only [Bool.and_eq_true] at hB1
        have hready : i ∈ Region.ready .any ops L := by simpa using hB1.1
        have hzz : i ≠ z ∧ Waits .any ops z i := by
          unfold lastB at hz
          cases hoz : ops[z]? with
          | none => rw [hoz] at hz; cases hz
          | some oz =>
            rw [hoz] at hz
            simp only [Bool.and_eq_true, Bool.not_eq_true', List.all_eq_true, List.mem_range, Bool.or_eq_true, beq_iff_eq] at hz
            have hne : i ≠ z := fun h => by
              subst h
              rw [ho] at hoz; cases hoz
              rw [hq] at hz; cases hz.1
            refine ⟨hne, ?_⟩
            rcases hz.2 i hiL with ((h | h) | h) | h
            · exact absurd h hne
            · exact .inl (dir_of h)
            · obtain ⟨k, hk, hb⟩ := List.any_eq_true.1 h
              simp only [Bool.and_eq_true] at hb
              exact .inr (.inl ⟨k, List.mem_range.1 hk, dir_of hb.1, dir_of hb.2⟩)
            · obtain ⟨k, hk, hb⟩ := List.any_eq_true.1 h
              simp only [Bool.and_eq_true] at hb
              obtain ⟨m, hm, hb2⟩ := List.any_eq_true.1 hb.2
              simp only [Bool.and_eq_true] at hb2
              exact .inr (.inr ⟨k, m, List.mem_range.1 hk, List.mem_range.1 hm, dir_of hb.1, dir_of hb2.1, dir_of hb2.2⟩)
        by_cases hw : Region.wanted o (yielded ops a.tmps) = true
        · rw [if_pos hw, if_pos hq] at h
          obtain ⟨v, hv, h'⟩ := h
          exact wpBut_first ho hs (fun c a w => hQ c a _ _ w) hzz.1 hzz.2 r.deep L a w hc (Region.free_spec ho hB1.2) hready (.inl ⟨hw, hv⟩) hS (wpBut_of_tree hs hz hQ r S _ _ _ (hc.put hready) hB2 hE2 hS h')
        · rw [if_neg hw] at h
          exact wpBut_first ho hs (fun c a w => hQ c a _ _ w) hzz.1 hzz.2 r.deep L a w hc (Region.free_spec ho hB1.2) hready (.inr ⟨by simpa using hw, rfl⟩) hS (wpBut_of_tree hs hz hQ r S _ _ _ (hc.put hready) hB2 hE2 hS h)
      · rw [if_neg hq] at hB1
        have hready : Region.ready .any ops L = [i] := by simpa using hB1
        refine ⟨fun h0 => (by rw [h0] at hready; cases hready), fun j hj => ?_⟩
        obtain rfl : j = i := by rw [hready] at hj; simpa using hj
        have hgo : ∀ b u, (j = z ∨ S u) → wpTreeZ P ops Q z S r b u → wpBut P .any ops Q z S r.deep (L.setIfInBounds j true) b u := fun b u hS' ht => by
          rcases hS' with hjz | hSu
          · subst hjz
            match r, hE1, hB2, ht with
            | .nil, _, hB2, ht => exact ⟨by simpa [treeB] using hB2, ht⟩
            | .step _ _, hE1, _, _ => simp at hE1
            | .two _ _ _ _, hE1, _, _ => simp at hE1
            | .narrow _, hE1, _, _ => simp at hE1
          · exact wpBut_of_tree hs hz hQ r S _ _ _ (hc.put hj) hB2 hE2 hSu ht
        by_cases hw : Region.wanted o (yielded ops a.tmps) = true
        · rw [if_pos hw, if_neg hq] at h
          refine wpOp_run ho hw ?_
          exact Oper.wp_mono (fun a' w' g => ⟨g.1, hgo a' w' g.1 g.2⟩) h
        · rw [if_neg hw] at h
          exact wpOp_skip ho hw ⟨.inr hS, hgo _ _ (.inr hS) h⟩

theorem wp_region_last {id : Nat} {a : Act} {w : World} {l : List Oper} (t : Tree) (z : Nat) (hm : P.follows .mixedOrders = true) (hs : Region.noSelect l.toArray = true) (hlen : decide (l.toArray.size = t.deep) = true)
    (hB : treeB l.toArray t (Array.replicate l.toArray.size false) = true) (hz : (lastB l.toArray z && endB z t) = true)
    (hQ : ∀ (c : List PanicEntry) (a : Act) (d : Option Tmp) (v : Value) (w : World), Q (.panic c) (a.put d v) w → Q (.panic c) a w) (S : World → Prop) (hS : S w.drew)
    (h : wpTreeZ P l.toArray Q z S t a w.drew) : (Code.region id l.toArray true).wp P Q a w := by
  simp only [Bool.and_eq_true] at hz
  refine wp_region_any hm ?_
  have := wpAny_of_but _ _ _ _ (wpBut_of_tree hs hz.1 hQ t S _ a w.drew (closed_start _) hB hz.2 hS h)
  rw [of_decide_eq_true hlen]
  rw [of_decide_eq_true hlen] at this
  exact this
theorem z_nil {a : Act} {w : World} (h : Q .normal a w) : wpTreeZ P ops Q z S .nil a w := h
theorem z_quiet {i : Nat} {r : Tree} {a : Act} {w : World} {o : Oper} (ho : ops[i]? = some o) (hq : quietOp o.op = true) (hw : Region.wanted o (yielded ops a.tmps) = true)
    (h : ∀ K : Act → Prop, (∀ a, wpTreeZ P ops Q z S r a w → K a) → o.quiet P a S K) : wpTreeZ P ops Q z S (.step i r) a w := by
  obtain ⟨v, h1, h2⟩ := h _ (fun _ h => h)
  simp only [wpTreeZ, ho]
  rw [if_pos hw, if_pos hq]
  exact ⟨v, fun w' hw' => quiet_value hq (h1 w' hw'), h2⟩
theorem z_run {i : Nat} {r : Tree} {a : Act} {w : World} {o : Oper} (ho : ops[i]? = some o) (hq : quietOp o.op = false) (hw : Region.wanted o (yielded ops a.tmps) = true)
    (h : ∀ K : Act → World → Prop, (∀ a w, S w → wpTreeZ P ops Q z S r a w → K a w) → o.wp P a w K Q) : wpTreeZ P ops Q z S (.step i r) a w := by
  simp only [wpTreeZ, ho]
  rw [if_pos hw, if_neg (by rw [hq]; exact Bool.false_ne_true)]
  exact h _ fun _ _ h1 h2 => ⟨.inr h1, h2⟩
theorem z_last {i : Nat} {r : Tree} {a : Act} {w : World} {o : Oper} (ho : ops[i]? = some o) (hq : quietOp o.op = false) (hw : Region.wanted o (yielded ops a.tmps) = true) (hz : i = z)
    (h : ∀ K : Act → World → Prop, (∀ a w, wpTreeZ P ops Q z S r a w → K a w) → o.wp P a w K Q) : wpTreeZ P ops Q z S (.step i r) a w := by
  simp only [wpTreeZ, ho]
  rw [if_pos hw, if_neg (by rw [hq]; exact Bool.false_ne_true)]
  exact h _ fun _ _ h2 => ⟨.inl hz, h2⟩
end
attribute [irreducible] wpTreeZ
end Go.Proofs.Ytaladlaffglkeaa
end
section

/- The contract of lookup.number: the number of so many bytes at a place, or it throws. Conditions: 1, 2 or 4 bytes; as many bytes as the slice says. -/
namespace Go.Proofs.Ytaladlaffglkeaa
open Go.RowKit Go.Lib

theorem num1_le (bs : List UInt8) (k : Nat) : num bs k 1 ≤ 255 := by rw [num1]; exact byte_le _
set_option maxRecDepth 100000 in
theorem number_ok (a : Option Addr) (n c k s : Nat) (bs : List UInt8) (w : World) (h : Has w a (bytesV bs)) (hl : bs.length = n) (hs : s = 1 ∨ s = 2 ∨ s = 4) (hk : k + s ≤ n) (hn : n ≤ c) (hc : c ≤ maxLen) :
    Calls Try.prog 139 #[.agg #[.slice a n c], .int .i64 (k : Nat), .int .i64 (s : Nat)] w fun e w' => e = .returned (.int .u32 (num bs k s : Nat)) ∧ Below w.heap.size w w' := by
  have hAC := allocC
  have hAF := allocF
  have HH := Lib.hid h
  have HL := Lib.hid hl
  clear h hl
  obtain rfl | rfl | rfl := hs
  · have hb := num1_le bs k
    go_enter Try.func139, Try.ntmps139
    go_wp2_with (first | (go_at_call 157; refine (u8_ok a n c k bs _ (HH.out.below (by repeat (first | with_reducible exact brefl _ | with_reducible assumption | (with_reducible refine bset ?_ (by first | (simp; done) | (simp; omega)) _) | with_reducible refine balloc ?_ _ | with_reducible refine bdrew ?_ _ | with_reducible refine bdrew1 ?_ | with_reducible refine bthen ?_ (by assumption) | with_reducible refine Below.trans ?_ (by assumption) | exact brefl _ | assumption | refine balloc ?_ _ | refine bdrew ?_ _ | refine bdrew1 ?_ | refine bthen ?_ (by assumption) | refine Below.trans ?_ (by assumption) | (refine bset ?_ (by first | (simp; done) | (simp; omega)) _)))) HL.out hk hn hc).mono ?_; rintro e wa ⟨rfl, hba⟩))
    go_ret
    exact ⟨rfl, (by repeat (first | with_reducible exact brefl _ | with_reducible assumption | (with_reducible refine bset ?_ (by first | (simp; done) | (simp; omega)) _) | with_reducible refine balloc ?_ _ | with_reducible refine bdrew ?_ _ | with_reducible refine bdrew1 ?_ | with_reducible refine bthen ?_ (by assumption) | with_reducible refine Below.trans ?_ (by assumption) | exact brefl _ | assumption | refine balloc ?_ _ | refine bdrew ?_ _ | refine bdrew1 ?_ | refine bthen ?_ (by assumption) | refine Below.trans ?_ (by assumption) | (refine bset ?_ (by first | (simp; done) | (simp; omega)) _)))⟩
  · have hb := num2_lt bs k
    go_enter Try.func139, Try.ntmps139
    go_wp2_with (first | (go_at_call 95; refine (u16_ok a n c k bs _ (HH.out.below (by repeat (first | with_reducible exact brefl _ | with_reducible assumption | (with_reducible refine bset ?_ (by first | (simp; done) | (simp; omega)) _) | with_reducible refine balloc ?_ _ | with_reducible refine bdrew ?_ _ | with_reducible refine bdrew1 ?_ | with_reducible refine bthen ?_ (by assumption) | with_reducible refine Below.trans ?_ (by assumption) | exact brefl _ | assumption | refine balloc ?_ _ | refine bdrew ?_ _ | refine bdrew1 ?_ | refine bthen ?_ (by assumption) | refine Below.trans ?_ (by assumption) | (refine bset ?_ (by first | (simp; done) | (simp; omega)) _)))) HL.out hk hn hc).mono ?_; rintro e wa ⟨rfl, hba⟩))
    go_ret
    exact ⟨rfl, (by repeat (first | with_reducible exact brefl _ | with_reducible assumption | (with_reducible refine bset ?_ (by first | (simp; done) | (simp; omega)) _) | with_reducible refine balloc ?_ _ | with_reducible refine bdrew ?_ _ | with_reducible refine bdrew1 ?_ | with_reducible refine bthen ?_ (by assumption) | with_reducible refine Below.trans ?_ (by assumption) | exact brefl _ | assumption | refine balloc ?_ _ | refine bdrew ?_ _ | refine bdrew1 ?_ | refine bthen ?_ (by assumption) | refine Below.trans ?_ (by assumption) | (refine bset ?_ (by first | (simp; done) | (simp; omega)) _)))⟩
  · have hb := num4_lt bs k
    go_enter Try.func139, Try.ntmps139
    go_wp2_with (first | (go_at_call 94; refine (need_true _).mono ?_; rintro e wa ⟨rfl, rfl⟩) | (go_at_call 88; refine (u32_ok a n c k bs _ (HH.out.below (by repeat (first | with_reducible exact brefl _ | with_reducible assumption | (with_reducible refine bset ?_ (by first | (simp; done) | (simp; omega)) _) | with_reducible refine balloc ?_ _ | with_reducible refine bdrew ?_ _ | with_reducible refine bdrew1 ?_ | with_reducible refine bthen ?_ (by assumption) | with_reducible refine Below.trans ?_ (by assumption) | exact brefl _ | assumption | refine balloc ?_ _ | refine bdrew ?_ _ | refine bdrew1 ?_ | refine bthen ?_ (by assumption) | refine Below.trans ?_ (by assumption) | (refine bset ?_ (by first | (simp; done) | (simp; omega)) _)))) HL.out hk hn hc).mono ?_; rintro e wb ⟨rfl, hbb⟩))
    go_ret
    exact ⟨rfl, (by repeat (first | with_reducible exact brefl _ | with_reducible assumption | (with_reducible refine bset ?_ (by first | (simp; done) | (simp; omega)) _) | with_reducible refine balloc ?_ _ | with_reducible refine bdrew ?_ _ | with_reducible refine bdrew1 ?_ | with_reducible refine bthen ?_ (by assumption) | with_reducible refine Below.trans ?_ (by assumption) | exact brefl _ | assumption | refine balloc ?_ _ | refine bdrew ?_ _ | refine bdrew1 ?_ | refine bthen ?_ (by assumption) | refine Below.trans ?_ (by assumption) | (refine bset ?_ (by first | (simp; done) | (simp; omega)) _)))⟩
end Go.Proofs.Ytaladlaffglkeaa
end
section

/- The contract of seek.First, of any function that answers true from some number on, whatever it does to the world beside. Condition: n isn't below 0. -/
namespace Go.Proofs.Ytaladlaffglkeaa
open Go.RowKit

theorem pred_nil (fn : Fn) (first cap : Array Value) (w : World) : (binOp .eql 126 (.func fn first cap) .nilFunc).run Try.prog w = .ok (.bool false) w := by kernel_rfl

def FirstRel (n : Nat) (p : Nat → Bool) (I : Nat → World → Prop) (lo hi : Value) (wr : World) : Prop :=
  ∃ l h k : Nat, lo = .int .i64 l ∧ hi = .int .i64 h ∧ l ≤ h ∧ h ≤ n ∧ (∀ i, i < l → p i = false) ∧ (∀ i, h ≤ i → i < n → p i = true) ∧ k + Lib.bitLen (h - l) ≤ Lib.bitLen n ∧ I k wr
def FirstIs (n : Nat) (p : Nat → Bool) (I : Nat → World → Prop) (e : Ending) (w' : World) : Prop :=
  ∃ r k : Nat, r ≤ n ∧ (∀ i, i < r → p i = false) ∧ (∀ i, r ≤ i → i < n → p i = true) ∧ k ≤ Lib.bitLen n ∧ e = .returned (.int .i64 r) ∧ I k w'

theorem bitLen_mono (a b : Nat) (h : a ≤ b) (hb : b < 2 ^ 64) : Lib.bitLen a ≤ Lib.bitLen b := by
  induction b using Nat.strongRecOn generalizing a with
  | _ b ih =>
    by_cases h0 : a = 0
    · subst h0; have : Lib.bitLen 0 = 0 := by decide
      omega
    · rw [Lib.bitLen_half a h0 (by omega), Lib.bitLen_half b (by omega) hb]
      have := ih (b / 2) (by omega) (a / 2) (by omega) (by omega)
      omega

set_option maxRecDepth 100000 in
set_option maxHeartbeats 800000 in
theorem first_any (G : FuncId) (cap : Array Value) (n : Nat) (p : Nat → Bool) (I : Nat → World → Prop) (w : World) (hn : n ≤ 9223372036854775807) (hm : ∀ i j, i ≤ j → j < n → p i = true → p j = true) (hI : I 0 w)
    (hinv : ∀ args w, (callFunc G args).run Try.prog w = .ok (.enter G args) w)
    (hcall : ∀ (i k : Nat) (W : World), i < n → k < Lib.bitLen n → I k W → Calls Try.prog G (#[.int .i64 i] ++ cap) W fun e w' => e = .returned (.bool (p i)) ∧ I (k + 1) w') :
    Calls Try.prog 123 #[.int .i64 n, .func (.func G) #[] cap] w (FirstIs n p I) := by
  have HI := Lib.hid hI
  have HM := Lib.hid hm
  have HC := Lib.hid hcall
  have hN := pred_nil
  clear hI hm hcall
  go_enter Try.func123, Try.ntmps123
  go_wp2_with fail
  go_loopw [5, 6] (FirstRel n p I) (fun l h _ => (Go.RowKit.intOf h).toNat - (Go.RowKit.intOf l).toNat)
  case atStart => exact ⟨0, n, 0, rfl, rfl, Nat.zero_le _, Nat.le_refl _, fun i hi => by omega, fun i h1 h2 => by omega, by rw [Nat.sub_zero]; omega, HI.out⟩
  case round =>
    obtain ⟨l, h, k, rfl, rfl, hle, hhn, hlo, hhi, hkb, hIk⟩ := hrel
    have HLO := Lib.hid hlo
    have HHI := Lib.hid hhi
    have HK := Lib.hid hkb
    have HIK := Lib.hid hIk
    clear hlo hhi hkb hIk
    by_cases hlt : l < h
    · obtain ⟨m, hm⟩ : ∃ m, m = l + (h - l) / 2 := ⟨_, rfl⟩
      have hml : l ≤ m := by omega
      have hmh : m < h := by omega
      have hh1 : m - l ≤ (h - l) / 2 := by omega
      have hh2 : h - (m + 1) ≤ (h - l) / 2 := by omega
      have HB := Lib.hid (Lib.bitLen_half (h - l) (by omega) (by omega))
      have HC' := Lib.hid (show ∀ x : Int, x = (m : Nat) → Calls Try.prog G (#[.int .i64 x] ++ cap) wr fun e w' => e = .returned (.bool (p m)) ∧ I (k + 1) w' from by rintro x rfl; exact HC.out m k wr (by omega) (by have := HK.out; have := HB.out; omega) HIK.out)
      have HMX := Lib.hid hm
      go_wp2_with fail
      refine (HC'.out _ (by have := HMX.out; omega)).mono ?_
      rintro e w2 ⟨rfl, hI2⟩
      have HI2 := Lib.hid hI2
      have e1 : (l : Int) + ((h : Int) - (l : Int)) / 2 = (m : Nat) := by have := HMX.out; omega
      rw [e1]
      clear hI2 hm e1
      generalize hp : p m = y
      have HP := Lib.hid hp
      clear hp
      cases y with
      | true =>
        go_wp2
        go_roundw
        case rel => exact ⟨l, m, k + 1, rfl, rfl, hml, by omega, HLO.out, fun i h1 h2 => HM.out m i h1 h2 HP.out, by have := HK.out; have := HB.out; have := bitLen_mono _ _ hh1 (by omega); omega, HI2.out⟩
        case measure => simp [Go.RowKit.intOf]; omega
      | false =>
        go_wp2
        go_roundw
        case rel => exact ⟨m + 1, h, k + 1, by go_num, rfl, by omega, hhn, fun i hi => (by
          cases hq : p i with
          | false => rfl
          | true => have := HM.out i m (by omega) (by omega) hq; rw [HP.out] at this; exact this.symm ▸ rfl), HHI.out, by have := HK.out; have := HB.out; have := bitLen_mono _ _ hh2 (by omega); omega, HI2.out⟩
        case measure => simp [Go.RowKit.intOf]; omega
    · obtain rfl : l = h := by omega
      go_wp2
      go_ret
      exact ⟨l, k, hhn, HLO.out, HHI.out, by have := HK.out; rw [Nat.sub_self] at this; have h0 : Lib.bitLen 0 = 0 := by decide
                                             omega, rfl, HIK.out⟩
end Go.Proofs.Ytaladlaffglkeaa
end
section

/- The contract of seek.isEnd. Conditions: the row has all keys. -/
namespace Go.Proofs.Ytaladlaffglkeaa
open Go.RowKit

def allFF (T : List UInt8) (K : Nat) : Bool := (List.range K).all fun i => num T (2 * i) 2 == 65535
theorem allFF_of (T : List UInt8) (K : Nat) (h : ∀ j, j < K → num T (2 * j) 2 = 65535) : allFF T K = true := by
  simp only [allFF, List.all_eq_true, List.mem_range, beq_iff_eq]; exact h
theorem allFF_not (T : List UInt8) (K i : Nat) (hi : i < K) (h : num T (2 * i) 2 ≠ 65535) : allFF T K = false := by
  simp only [allFF, List.all_eq_false, List.mem_range, beq_iff_eq]; exact ⟨i, hi, h⟩
def EndRel (T : List UInt8) (K : Nat) (w : World) (v : Value) (i : Value) (wr : World) : Prop :=
  ∃ k : Nat, k ≤ K ∧ i = .int .i64 (k : Nat) ∧ (∀ j, j < k → num T (2 * j) 2 = 65535) ∧ wr.cell? ⟨w.heap.size, 0, none⟩ = some v ∧ Below w.heap.size w wr ∧ w.heap.size < wr.heap.size

set_option maxRecDepth 100000 in
set_option maxHeartbeats 1600000 in
theorem isEnd_any (A : Option Addr) (S C K : Nat) (T : List UInt8) (w : World) (h : Has w A (bytesV T)) (hl : T.length = S) (hk : 2 * K ≤ S) (hn : S ≤ C) (hc : C ≤ maxLen) :
    Calls Try.prog 156 #[.agg #[.slice A S C], .int .i64 (K : Nat)] w fun e w' => e = .returned (.bool (allFF T K)) ∧ Below w.heap.size w w' := by
  have HH := Lib.hid h
  have HL := Lib.hid hl
  have hcm := hc
  unfold maxLen at hcm
  clear h hl
  have hAC := allocC
  have hAF := allocF
  go_enter Try.func156, Try.ntmps156
  go_wp2_with fail
  go_loopw [7] (EndRel T K w (.slice A S C)) (fun i _ => K - (Go.RowKit.intOf i).toNat)
  case atStart => exact ⟨0, Nat.zero_le _, rfl, fun j hj => by omega, by simp [hAC], (by repeat (first | with_reducible exact brefl _ | with_reducible assumption | (with_reducible refine bset ?_ (by first | (simp; done) | (simp; omega)) _) | with_reducible refine balloc ?_ _ | with_reducible refine bdrew ?_ _ | with_reducible refine bdrew1 ?_ | with_reducible refine bthen ?_ (by assumption) | with_reducible refine Below.trans ?_ (by assumption) | exact brefl _ | assumption | refine balloc ?_ _ | refine bdrew ?_ _ | refine bdrew1 ?_ | refine bthen ?_ (by assumption) | refine Below.trans ?_ (by assumption) | (refine bset ?_ (by first | (simp; done) | (simp; omega)) _))), by simp⟩
  case round =>
    obtain ⟨k, hk', rfl, hall, c0, hb, hz⟩ := hrel
    have HA := Lib.hid hall
    have HB := Lib.hid hb
    clear hall hb
    by_cases hlt : k < K
    · have HU := Lib.hid (fun W hw => u16_z A S C (2 * k) (2 * (k : Int)) (by omega) T W hw HL.out (by omega) hn hc)
      have hq2 := num2_lt T (2 * k)
      have HQ := Lib.hid (show num T (2 * k) 2 = num T (2 * k) 2 from rfl)
      generalize hq : num T (2 * k) 2 = q at *
      have HQ := Lib.hid hq
      clear hq
      by_cases he : q = 65535
      · have hd : ((q : Int) != 65535) = false := by simp [he]
        have HE := Lib.hid he
        clear he
        go_wp2_with (first | (go_at_call 95; (with_reducible refine (HU.out _ (HH.out.below HB.out)).mono ?_); rintro e w2 ⟨rfl, hb2⟩; have h2c := bc hb2; have h2f := bf hb2; have h2z := hb2.size; try simp only [World.size_alloc, World.size_drew] at h2z))
        go_roundw
        case rel => exact ⟨k + 1, hlt, by go_num, fun j hj => (by
          rcases Nat.lt_or_ge j k with g | g
          · exact HA.out j g
          · obtain rfl : j = k := by omega
            rw [HQ.out, HE.out]), by rw [h2c, if_pos hz]; exact c0, HB.out.trans (hb2.mono HB.out.size), by omega⟩
        case measure => simp [Go.RowKit.intOf]; omega
      · have hd : ((q : Int) != 65535) = true := by simp; omega
        have HE := Lib.hid (allFF_not T K k hlt (by rw [HQ.out]; exact he))
        clear he
        go_wp2_with (first | (go_at_call 95; (with_reducible refine (HU.out _ (HH.out.below HB.out)).mono ?_); rintro e w2 ⟨rfl, hb2⟩; have h2c := bc hb2; have h2f := bf hb2; have h2z := hb2.size; try simp only [World.size_alloc, World.size_drew] at h2z))
        go_ret
        exact ⟨by rw [HE.out]; rfl, HB.out.trans (hb2.mono HB.out.size)⟩
    · obtain rfl : k = K := by omega
      go_wp2
      go_ret
      exact ⟨by rw [allFF_of T k HA.out]; rfl, HB.out⟩
end Go.Proofs.Ytaladlaffglkeaa
end
section

/- The contract of seek.Take. Conditions: as many bytes as the slice says; need at least 2, keys at least 1, and need at least twice keys. -/
namespace Go.Proofs.Ytaladlaffglkeaa
open Go.RowKit

def skS (bs : List UInt8) (k : Nat) : Nat := num bs k 2
def skN (bs : List UInt8) (k : Nat) : Nat := num bs (k + 2) 2
structure skOk (bs : List UInt8) (k need : Nat) : Prop where
  head : k + 10 ≤ bs.length
  size : need ≤ skS bs k
  rows : k + 10 + skN bs k * skS bs k ≤ bs.length
def rowB (bs : List UInt8) (p s : Nat) : List UInt8 := (bs.drop p).take s
def skEnd (bs : List UInt8) (k keys : Nat) : Bool := decide (0 < skN bs k) && allFF (rowB bs (k + 10 + (skN bs k - 1) * skS bs k) (skS bs k)) keys
def skM (bs : List UInt8) (k keys : Nat) : Nat := if skEnd bs k keys = true then skN bs k - 1 else skN bs k
def rowV (a : Option Addr) (c p s : Nat) : Value := .slice (adv a c p) s (c - p)
def rowsV (a : Option Addr) (c k S M : Nat) : List Value := (List.range M).map fun i => rowV a c (k + 10 + i * S) S
theorem view_info : (Try.prog.info? 93).map (fun i => (i.zero, i.size, i.bytes)) = some (some (.agg #[.slice none 0 0]), 1, 24) := by kernel_rfl
theorem adv_adv (a : Option Addr) (c p q : Nat) (h : p + q < c) : adv (adv a c p) (c - p) q = adv a c (p + q) := by
  unfold adv
  rw [if_neg (by omega), if_neg (by omega), if_neg (by omega)]
  cases a with
  | none => rfl
  | some x =>
    obtain ⟨b, o, s⟩ := x
    simp only [Option.map_some, Option.some.injEq, Addr.add]
    by_cases h1 : p = 0 <;> by_cases h2 : q = 0 <;> simp [h1, h2, Nat.add_assoc]
def zerosV (m : Nat) : List Value := List.replicate m (.slice none 0 0)
theorem made_views (n : Nat) : (madeCells (Value.agg #[.slice none 0 0]).cells (n * 1)).toList = zerosV n := by
  apply List.ext_getElem?
  intro j
  simp only [madeCells, Value.cells, zerosV]
  by_cases h : j < n
  · simp [h, Nat.mod_one]
  · simp [h]
theorem zerosV_succ (m : Nat) : zerosV (m + 1) = .slice none 0 0 :: zerosV m := rfl
def STakeRel (W : World) (g g5 : Nat) (a : Option Addr) (c k S M : Nat) (V : Value) (i : Value) (wr : World) : Prop :=
  ∃ j, j ≤ M ∧ i = .int .i64 (j : Nat) ∧ wr.ownsRow W.heap.size 93 1 (.slice (some ⟨g, 0, none⟩) M M) M (rowsV a c k S j ++ zerosV (M - j)) ∧ wr.cell? ⟨g5, 0, none⟩ = some V ∧ Below W.heap.size W wr
def STakeIs (bs : List UInt8) (a : Option Addr) (c : Nat) (k : Int) (need keys : Nat) (w : World) (e : Ending) (w' : World) : Prop :=
  ((∃ j g : Nat, k = (j : Nat) ∧ skOk bs j need ∧ e = .returned (.slice (some ⟨g, 0, none⟩) (skM bs j keys) (skM bs j keys)) ∧ w'.ownsRow w.heap.size 93 1 (.slice (some ⟨g, 0, none⟩) (skM bs j keys) (skM bs j keys)) (skM bs j keys) (rowsV a c j (skS bs j) (skM bs j keys))) ∨
    ((∀ j : Nat, k = (j : Nat) → ¬ skOk bs j need) ∧ e = .panicked thrown)) ∧ Below w.heap.size w w'

theorem stake_step {w wr w' : World} {g5 gm k S M j c : Nat} {a : Option Addr} {V i : Value} (hlt : k < M) (hi : i = .int .i64 ((k + 1 : Nat) : Int)) (hO : wr.ownsRow w.heap.size 93 1 (.slice (some ⟨gm, 0, none⟩) M M) M (rowsV a c j S k ++ zerosV (M - k)))
    (d5 : wr.cell? ⟨g5, 0, none⟩ = some V) (hb : Below w.heap.size w wr) (hb6 : Below w.heap.size wr w') (hb7 : Below wr.heap.size wr w') (h5 : g5 < gm) (hg : w.heap.size ≤ gm) :
    STakeRel w gm g5 a c j S M V i (w'.setCell ⟨gm, k, none⟩ (rowV a c (j + 10 + k * S) S)) := by
  have h1 := owns_below hO hb7 (Nat.le_refl _)
  refine ⟨k + 1, hlt, hi, ?_, ?_, bset (hb.trans hb6) hg _⟩
  · refine owns_eq (h1.stored k (rowV a c (j + 10 + k * S) S)).1 ?_
    obtain ⟨m, hm⟩ : ∃ m, M - k = m + 1 := ⟨M - k - 1, by omega⟩
    have hl : (rowsV a c j S k).length = k := by simp [rowsV]
    rw [hm, zerosV_succ, List.set_append_right _ _ (by omega), hl, Nat.sub_self, List.set_cons_zero, show M - (k + 1) = m by omega]
    simp [rowsV, List.range_succ]
  · rw [cell_other _ (by simp; omega)]
    exact (hb7.cell (p := ⟨g5, 0, none⟩) (cell_lt d5)).trans d5

set_option maxRecDepth 100000 in
set_option maxHeartbeats 1600000 in
theorem stake_any (a : Option Addr) (n c : Nat) (bs : List UInt8) (k : Int) (need keys : Nat) (w : World) (h : Has w a (bytesV bs)) (hl : bs.length = n) (hn : n ≤ c) (hc : c ≤ maxLen) (hk : -9223372036854775808 ≤ k ∧ k ≤ 9223372036854775807)
    (h2 : 2 ≤ need) (hn63 : need ≤ 9223372036854775807) (h1 : 1 ≤ keys) (hkn : 2 * keys ≤ need) :
    Calls Try.prog 137 #[.agg #[.slice a n c], .int .i64 k, .int .i64 (need : Nat), .int .i64 (keys : Nat)] w (STakeIs bs a c k need keys w) := by
  have HH := Lib.hid h
  have HL := Lib.hid hl
  have hcm := hc
  unfold maxLen at hcm
  clear h hl
  have hAC := allocC
  have hAF := allocF
  obtain ⟨hk1, hk2⟩ := hk
  by_cases hin : 0 ≤ k ∧ k + 10 ≤ n
  case neg =>
    have HCB := Lib.hid (fun W => cut_bad a n c k 10 W (by omega) hn hc)
    have HNO := Lib.hid (show ∀ j : Nat, k = (j : Nat) → ¬ skOk bs j need from fun j hj ho => hin (by have := ho.head; rw [HL.out] at this; omega))
    clear hin
    go_enter Try.func137, Try.ntmps137
    go_wp2_with (first | (go_at_call 134; (with_reducible refine (HCB.out _).mono ?_); rintro e w1 ⟨rfl, hb1⟩; have h1c := bc hb1; have h1f := bf hb1; have h1z := hb1.size; try simp only [World.size_alloc, World.size_drew] at h1z))
    exact ⟨rfl, .inr ⟨HNO.out, rfl⟩, (by repeat (first | with_reducible exact brefl _ | with_reducible assumption | (with_reducible refine bset ?_ (by first | (simp; done) | (simp; omega)) _) | with_reducible refine balloc ?_ _ | with_reducible refine bdrew ?_ _ | with_reducible refine bdrew1 ?_ | with_reducible refine bthen ?_ (by assumption) | with_reducible refine Below.trans ?_ (by assumption) | exact brefl _ | assumption | refine balloc ?_ _ | refine bdrew ?_ _ | refine bdrew1 ?_ | refine bthen ?_ (by assumption) | refine Below.trans ?_ (by assumption) | (refine bset ?_ (by first | (simp; done) | (simp; omega)) _)))⟩
  obtain ⟨hk0, hkn'⟩ := hin
  obtain ⟨j, rfl⟩ : ∃ j : Nat, k = j := ⟨k.toNat, by omega⟩
  have hjn : j + 10 ≤ n := by omega
  have HC1 := Lib.hid (fun W => cut_z a n c j 10 (j : Int) 10 rfl rfl W hjn hn hc)
  have hS2 := num2_lt bs j
  have hN2 := num2_lt bs (j + 2)
  have HR10 := (HH.out.adv c j (by rw [bytesV_length, HL.out]; exact hn)).take 10
  rw [bytesV_drop, bytesV_take] at HR10
  have HRL : ((bs.drop j).take 10).length = 10 := by rw [List.length_take, List.length_drop, HL.out]; omega
  have hnum0 : num ((bs.drop j).take 10) 0 2 = num bs j 2 := by rw [num_take _ _ _ (by omega), num_drop]; rfl
  have hnum2 : num ((bs.drop j).take 10) 2 2 = num bs (j + 2) 2 := by rw [num_take _ _ _ (by omega), num_drop]
  have hu0 := fun W hw => u16_z (adv a c j) 10 (c - j) 0 0 rfl ((bs.drop j).take 10) W hw HRL (by omega) (by omega) (by unfold maxLen; omega)
  have hu2 := fun W hw => u16_z (adv a c j) 10 (c - j) 2 2 rfl ((bs.drop j).take 10) W hw HRL (by omega) (by omega) (by unfold maxLen; omega)
  rw [hnum0] at hu0
  rw [hnum2] at hu2
  have HU0 := Lib.hid hu0
  have HU2 := Lib.hid hu2
  have HR := Lib.hid HR10
  have HSS := Lib.hid (show skS bs j = num bs j 2 from rfl)
  have HNN := Lib.hid (show skN bs j = num bs (j + 2) 2 from rfl)
  clear hu0 hu2 HR10 HRL hnum0 hnum2
  generalize num bs j 2 = S at *
  generalize num bs (j + 2) 2 = N at *
  go_enter Try.func137, Try.ntmps137
  go_wp2_with (first | (go_at_call 134; (with_reducible refine (HC1.out _).mono ?_); rintro e w1 ⟨rfl, hb1⟩; have h1c := bc hb1; have h1f := bf hb1; have h1z := hb1.size; try simp only [World.size_alloc, World.size_drew] at h1z))
  obtain ⟨V, hV⟩ : ∃ V, V = w1.alloc (Obj.cells #[.slice (adv a c j) 10 (c - j)] 93) := ⟨_, rfl⟩
  have c4 : V.cell? ⟨w.heap.size, 0, none⟩ = some (.slice a n c) := by
    rw [hV, hAC, if_neg (by omega), h1c, if_pos (by simp)]; simp [hAC]
  have c9 : V.cell? ⟨w1.heap.size, 0, none⟩ = some (.slice (adv a c j) 10 (c - j)) := by rw [hV]; simp [hAC]
  have hbV : Below w.heap.size w V := by rw [hV]; exact (by repeat (first | with_reducible exact brefl _ | with_reducible assumption | (with_reducible refine bset ?_ (by first | (simp; done) | (simp; omega)) _) | with_reducible refine balloc ?_ _ | with_reducible refine bdrew ?_ _ | with_reducible refine bdrew1 ?_ | with_reducible refine bthen ?_ (by assumption) | with_reducible refine Below.trans ?_ (by assumption) | exact brefl _ | assumption | refine balloc ?_ _ | refine bdrew ?_ _ | refine bdrew1 ?_ | refine bthen ?_ (by assumption) | refine Below.trans ?_ (by assumption) | (refine bset ?_ (by first | (simp; done) | (simp; omega)) _)))
  have hzV : V.heap.size = w1.heap.size + 1 := by rw [hV]; simp
  rw [← hV]
  clear hV h1c h1f hb1
  generalize hg9 : w1.heap.size = g9 at *
  have HBV := Lib.hid hbV
  have hg4l : w.heap.size < V.heap.size := by omega
  have hg9l : g9 < V.heap.size := by omega
  have h49 : w.heap.size < g9 := by omega
  clear hbV hg9
  refine wp_region_tree (.step 0 (.step 2 (.step 1 (.narrow (.step 3 (.narrow (.step 4 (.step 5 .nil)))))))) (by kernel_rfl) (by kernel_rfl) (by kernel_rfl) (by kernel_rfl) (by intro _ _ d_ _ _ h_; cases d_ <;> first | exact h_ | (dsimp +zetaDelta only at h_ ⊢; exact h_)) (fun w' => ∃ p : Wld V [], w' = p.val) (wld_start _ _) ?_
  have hG_ := @wldC V
  (refine tree_quiet gtA (by rfl) (by rfl) (fun K_ hK_ => ?_); go_big_quiet_op; refine hK_ _ ?_; clear hK_ K_)
  (refine tree_quiet gtA (by rfl) (by rfl) (fun K_ hK_ => ?_); go_big_quiet_op; refine hK_ _ ?_; clear hK_ K_)
  (refine tree_run gtA (by rfl) (by rfl) (fun K_ hK_ => ?_); have HK_ := Lib.hid hK_; clear hK_; go_wp2_with (first | (go_at_call 95; (with_reducible refine (HU0.out _ (HR.out.below (HBV.out.trans (Below.mono (show Below V.heap.size V _ from (by repeat (first | with_reducible exact brefl _ | with_reducible assumption | (with_reducible refine bset ?_ (by first | (simp; done) | (simp; omega)) _) | with_reducible refine balloc ?_ _ | with_reducible refine bdrew ?_ _ | with_reducible refine bdrew1 ?_ | with_reducible refine bthen ?_ (by assumption) | with_reducible refine Below.trans ?_ (by assumption) | exact brefl _ | assumption | refine balloc ?_ _ | refine bdrew ?_ _ | refine bdrew1 ?_ | refine bthen ?_ (by assumption) | refine Below.trans ?_ (by assumption) | (refine bset ?_ (by first | (simp; done) | (simp; omega)) _)))) HBV.out.size)))).mono ?_); rintro e wa ⟨rfl, hba⟩; have hac := bc hba; have haf := bf hba; have haz := hba.size; try simp only [World.size_alloc, World.size_drew] at haz) | (go_at_call 95; (with_reducible refine (HU2.out _ (HR.out.below (HBV.out.trans (Below.mono (show Below V.heap.size V _ from (by repeat (first | with_reducible exact brefl _ | with_reducible assumption | (with_reducible refine bset ?_ (by first | (simp; done) | (simp; omega)) _) | with_reducible refine balloc ?_ _ | with_reducible refine bdrew ?_ _ | with_reducible refine bdrew1 ?_ | with_reducible refine bthen ?_ (by assumption) | with_reducible refine Below.trans ?_ (by assumption) | exact brefl _ | assumption | refine balloc ?_ _ | refine bdrew ?_ _ | refine bdrew1 ?_ | refine bthen ?_ (by assumption) | refine Below.trans ?_ (by assumption) | (refine bset ?_ (by first | (simp; done) | (simp; omega)) _)))) HBV.out.size)))).mono ?_); rintro e wb ⟨rfl, hbb⟩; have hbc := bc hbb; have hbf := bf hbb; have hbz := hbb.size; try simp only [World.size_alloc, World.size_drew] at hbz)); refine HK_.out _ _ (wld_of (by repeat (first | with_reducible exact same_below (brefl _) | with_reducible exact same_below (bdrew1 (brefl _)) | with_reducible assumption | with_reducible refine same_drew ?_ | (with_reducible refine same_set ?_ (by first | (left; simp; done) | (right; simp; done) | (right; simp; omega)) _) | with_reducible refine same_then ?_ (by assumption) | with_reducible refine same_alloc ?_ _ | exact same_below (brefl _) | exact same_realloc (by simp) | exact same_below (bdrew1 (brefl _)) | assumption | refine same_drew ?_ | refine same_then ?_ (by assumption) | refine same_alloc ?_ _ | (refine same_set ?_ (by first | (left; simp; done) | (right; simp; done) | (right; simp; omega)) _)))) ?_; clear HK_)
  refine tree_move (by repeat (first | with_reducible exact same_below (brefl _) | with_reducible exact same_below (bdrew1 (brefl _)) | with_reducible assumption | with_reducible refine same_drew ?_ | (with_reducible refine same_set ?_ (by first | (left; simp; done) | (right; simp; done) | (right; simp; omega)) _) | with_reducible refine same_then ?_ (by assumption) | with_reducible refine same_alloc ?_ _ | exact same_below (brefl _) | exact same_realloc (by simp) | exact same_below (bdrew1 (brefl _)) | assumption | refine same_drew ?_ | refine same_then ?_ (by assumption) | refine same_alloc ?_ _ | (refine same_set ?_ (by first | (left; simp; done) | (right; simp; done) | (right; simp; omega)) _))) ?_; clear hG_; intro hG_
  (refine tree_run gtA (by rfl) (by rfl) (fun K_ hK_ => ?_); have HK_ := Lib.hid hK_; clear hK_; go_wp2_with (first | (go_at_call 95; (with_reducible refine (HU0.out _ (HR.out.below (HBV.out.trans (Below.mono (show Below V.heap.size V _ from (by repeat (first | with_reducible exact brefl _ | with_reducible assumption | (with_reducible refine bset ?_ (by first | (simp; done) | (simp; omega)) _) | with_reducible refine balloc ?_ _ | with_reducible refine bdrew ?_ _ | with_reducible refine bdrew1 ?_ | with_reducible refine bthen ?_ (by assumption) | with_reducible refine Below.trans ?_ (by assumption) | exact brefl _ | assumption | refine balloc ?_ _ | refine bdrew ?_ _ | refine bdrew1 ?_ | refine bthen ?_ (by assumption) | refine Below.trans ?_ (by assumption) | (refine bset ?_ (by first | (simp; done) | (simp; omega)) _)))) HBV.out.size)))).mono ?_); rintro e wa ⟨rfl, hba⟩; have hac := bc hba; have haf := bf hba; have haz := hba.size; try simp only [World.size_alloc, World.size_drew] at haz) | (go_at_call 95; (with_reducible refine (HU2.out _ (HR.out.below (HBV.out.trans (Below.mono (show Below V.heap.size V _ from (by repeat (first | with_reducible exact brefl _ | with_reducible assumption | (with_reducible refine bset ?_ (by first | (simp; done) | (simp; omega)) _) | with_reducible refine balloc ?_ _ | with_reducible refine bdrew ?_ _ | with_reducible refine bdrew1 ?_ | with_reducible refine bthen ?_ (by assumption) | with_reducible refine Below.trans ?_ (by assumption) | exact brefl _ | assumption | refine balloc ?_ _ | refine bdrew ?_ _ | refine bdrew1 ?_ | refine bthen ?_ (by assumption) | refine Below.trans ?_ (by assumption) | (refine bset ?_ (by first | (simp; done) | (simp; omega)) _)))) HBV.out.size)))).mono ?_); rintro e wb ⟨rfl, hbb⟩; have hbc := bc hbb; have hbf := bf hbb; have hbz := hbb.size; try simp only [World.size_alloc, World.size_drew] at hbz)); refine HK_.out _ _ (wld_of (by repeat (first | with_reducible exact same_below (brefl _) | with_reducible exact same_below (bdrew1 (brefl _)) | with_reducible assumption | with_reducible refine same_drew ?_ | (with_reducible refine same_set ?_ (by first | (left; simp; done) | (right; simp; done) | (right; simp; omega)) _) | with_reducible refine same_then ?_ (by assumption) | with_reducible refine same_alloc ?_ _ | exact same_below (brefl _) | exact same_realloc (by simp) | exact same_below (bdrew1 (brefl _)) | assumption | refine same_drew ?_ | refine same_then ?_ (by assumption) | refine same_alloc ?_ _ | (refine same_set ?_ (by first | (left; simp; done) | (right; simp; done) | (right; simp; omega)) _)))) ?_; clear HK_)
  refine tree_move (by repeat (first | with_reducible exact same_below (brefl _) | with_reducible exact same_below (bdrew1 (brefl _)) | with_reducible assumption | with_reducible refine same_drew ?_ | (with_reducible refine same_set ?_ (by first | (left; simp; done) | (right; simp; done) | (right; simp; omega)) _) | with_reducible refine same_then ?_ (by assumption) | with_reducible refine same_alloc ?_ _ | exact same_below (brefl _) | exact same_realloc (by simp) | exact same_below (bdrew1 (brefl _)) | assumption | refine same_drew ?_ | refine same_then ?_ (by assumption) | refine same_alloc ?_ _ | (refine same_set ?_ (by first | (left; simp; done) | (right; simp; done) | (right; simp; omega)) _))) ?_; clear hG_; intro hG_
  (refine tree_quiet gtA (by rfl) (by rfl) (fun K_ hK_ => ?_); go_big_quiet_op; refine hK_ _ ?_; clear hK_ K_)
  (refine tree_quiet gtA (by rfl) (by rfl) (fun K_ hK_ => ?_); go_big_quiet_op; refine hK_ _ ?_; clear hK_ K_)
  refine tree_nil ?_
  clear hG_
  have hVb : Below V.heap.size V wb := (by repeat (first | with_reducible exact brefl _ | with_reducible assumption | (with_reducible refine bset ?_ (by first | (simp; done) | (simp; omega)) _) | with_reducible refine balloc ?_ _ | with_reducible refine bdrew ?_ _ | with_reducible refine bdrew1 ?_ | with_reducible refine bthen ?_ (by assumption) | with_reducible refine Below.trans ?_ (by assumption) | exact brefl _ | assumption | refine balloc ?_ _ | refine bdrew ?_ _ | refine bdrew1 ?_ | refine bthen ?_ (by assumption) | refine Below.trans ?_ (by assumption) | (refine bset ?_ (by first | (simp; done) | (simp; omega)) _)))
  have d4 := (hVb.cell (p := ⟨w.heap.size, 0, none⟩) hg4l).trans c4
  have hzb := hVb.size
  have hB2 := HBV.out.trans (hVb.mono HBV.out.size)
  have HB2 := Lib.hid hB2
  have hg4b : w.heap.size < wb.heap.size := by omega
  clear c4 c9 hVb hB2 hba hbb hac haf hbc hbf HU0 HU2 HR HBV
  rename_i wa_
  by_cases hsz : need ≤ S
  case neg =>
    have HNO := Lib.hid (show ∀ i : Nat, ((j : Nat) : Int) = (i : Nat) → ¬ skOk bs i need from fun i hi ho => hsz (by obtain rfl : j = i := (by omega); have := ho.size; rw [HSS.out] at this; exact this))
    go_wp2_with (first | (go_at_call 94; refine (need_f _ (by first | rfl | (simp; omega)) _).mono ?_; rintro e w_ ⟨rfl, rfl⟩))
    exact ⟨rfl, .inr ⟨HNO.out, rfl⟩, HB2.out⟩
  have hS0 : 0 < S := by omega
  have hfe : (N ≤ (n - (j + 10)) / S) ↔ j + 10 + N * S ≤ n := by
    rw [Nat.le_div_iff_mul_le hS0]; omega
  by_cases hfit : N ≤ (n - (j + 10)) / S
  case neg =>
    have HNO := Lib.hid (show ∀ i : Nat, ((j : Nat) : Int) = (i : Nat) → ¬ skOk bs i need from fun i hi ho => by
      obtain rfl : j = i := by omega
      have := ho.rows
      rw [HSS.out, HNN.out, HL.out] at this
      exact hfit (hfe.2 this))
    have HRB := Lib.hid (fun W => rows_bad a n c ((j : Int) + 10) (N : Nat) (S : Nat) W (by omega) (by omega) (by
      rintro ⟨_, _, _, _, hx | hx⟩
      · omega
      · rw [show ((j : Int) + 10).toNat = j + 10 by omega] at hx
        simp only [Int.toNat_natCast] at hx
        exact hfit hx) hn hc)
    clear hfit hfe
    go_wp2_with (first | (go_at_call 94; refine (need_t _ (by first | rfl | (simp; omega)) _).mono ?_; rintro e w_ ⟨rfl, rfl⟩) | (go_at_call 142; (with_reducible refine (HRB.out _).mono ?_); rintro e w3 ⟨rfl, hb3⟩; have h3c := bc hb3; have h3f := bf hb3; have h3z := hb3.size; try simp only [World.size_alloc, World.size_drew] at h3z))
    exact ⟨rfl, .inr ⟨HNO.out, rfl⟩, HB2.out.trans (hb3.mono (by omega))⟩
  have hfit2 := hfe.1 hfit
  have HRW := Lib.hid (fun W => rows_z a n c (j + 10) N S (N * S) ((j : Int) + 10) (N : Nat) (S : Nat) (by omega) rfl rfl W rfl (by omega) (.inr hfit) (by omega) (by omega) hn hc)
  have HOK := Lib.hid (show skOk bs j need from ⟨by rw [HL.out]; omega, by rw [HSS.out]; exact hsz, by rw [HSS.out, HNN.out, HL.out]; exact hfit2⟩)
  clear hfit hfe
  have HNS := Lib.hid (show N * S ≤ n from by omega)
  have hns : N * S ≤ n := HNS.out
  by_cases hN0 : 0 < N
  case neg =>
    have HM := Lib.hid (show skM bs j keys = N from by unfold skM skEnd; rw [HNN.out]; simp [hN0])
    go_wp2_with (first
      | (go_at_call 94; refine (need_t _ (by first | rfl | (simp; omega)) _).mono ?_; rintro e w_ ⟨rfl, rfl⟩)
      | (go_at_call 142; (with_reducible refine (HRW.out _).mono ?_); rintro e w3 ⟨rfl, hb3⟩; have h3c := bc hb3; have h3f := bf hb3; have h3z := hb3.size; try simp only [World.size_alloc, World.size_drew] at h3z)
      | (at_make; refine wpMake _ rfl _ _ 229 rfl w.heap.size 93 (.agg #[.slice none 0 0]) 1 24 Try.underlying229 view_info N rfl rfl (by omega) (by unfold maxLen; omega) (by first | omega | (simp; omega)) ?_; intro w4 hown hb4; have hz4 := hb4.size; (try simp only [World.size_alloc] at hz4); (try simp only [World.size_alloc] at hown); have HO := Lib.hid hown; have HB4 := Lib.hid hb4; clear hown hb4))
    have HBW := Lib.hid (show Below w.heap.size w w4 from by have hb4 := HB4.out; exact HB2.out.trans (Below.mono (show Below wb.heap.size wb w4 from (by repeat (first | with_reducible exact brefl _ | with_reducible assumption | (with_reducible refine bset ?_ (by first | (simp; done) | (simp; omega)) _) | with_reducible refine balloc ?_ _ | with_reducible refine bdrew ?_ _ | with_reducible refine bdrew1 ?_ | with_reducible refine bthen ?_ (by assumption) | with_reducible refine Below.trans ?_ (by assumption) | exact brefl _ | assumption | refine balloc ?_ _ | refine bdrew ?_ _ | refine bdrew1 ?_ | refine bthen ?_ (by assumption) | refine Below.trans ?_ (by assumption) | (refine bset ?_ (by first | (simp; done) | (simp; omega)) _)))) (by omega)))
    have c5 : w4.cell? ⟨w3.heap.size, 0, none⟩ = some (.slice (adv a c (j + 10)) (N * S) (c - (j + 10))) := (HB4.out.cell (p := ⟨w3.heap.size, 0, none⟩) (by simp; try omega)).trans (by simp [hAC])
    have hgm := (HO.out.lt _ rfl).2
    have hgn := (HO.out.lt _ rfl).1
    have g5l : w3.heap.size < w4.heap.size := by omega
    obtain ⟨gm, hgm'⟩ : ∃ gm, gm = w3.heap.size + 1 := ⟨_, rfl⟩
    rw [← hgm'] at HO hgm hgn ⊢
    have hg5m : w3.heap.size < gm := by omega
    clear HB4 h3c h3f hb3 hgm' hz4 
    generalize w3.heap.size = g5 at *
    go_loopw [50] (STakeRel w gm g5 a c j S N (.slice (adv a c (j + 10)) (N * S) (c - (j + 10)))) (fun i _ => N - (Go.RowKit.intOf i).toNat)
    case atStart => exact ⟨0, Nat.zero_le _, rfl, by have := HO.out; rw [made_views] at this; exact this, c5, HBW.out⟩
    case round =>
      obtain ⟨k, hkM, rfl, hown, d5, hbr⟩ := hrel
      have HO5 := Lib.hid hown
      have HBR := Lib.hid hbr
      have hzr := hbr.size
      clear hown hbr
      · obtain rfl : k = N := by omega
        go_wp2
        go_ret
        exact ⟨.inl ⟨j, gm, rfl, HOK.out, by rw [HM.out]; rfl, by rw [HM.out, HSS.out]; have := HO5.out; rw [Nat.sub_self, show zerosV 0 = [] from rfl, List.append_nil] at this; exact this⟩, HBR.out⟩
  obtain ⟨P, hP⟩ : ∃ P, P = N - 1 := ⟨_, rfl⟩
  have hP1 : P * S + S = N * S := by rw [← Nat.succ_mul]; congr 1; omega
  obtain ⟨q, hq⟩ : ∃ q, q = P * S := ⟨_, rfl⟩
  have HQ1 := Lib.hid (show IntKind.i64.wrap ((P : Int) * (S : Int)) = (q : Int) by rw [← Int.natCast_mul, ← hq]; exact IntWalk.i64_in _ (by omega))
  have HC5 := Lib.hid (fun W => cut_z (adv a c (j + 10)) (N * S) (c - (j + 10)) q S (q : Int) (S : Int) rfl rfl W (by omega) (by omega) (by unfold maxLen; omega))
  have hB := ((HH.out.adv c (j + 10 + q) (by rw [bytesV_length, HL.out]; exact hn)).take S)
  rw [bytesV_drop, bytesV_take] at hB
  have hBL : ((bs.drop (j + 10 + q)).take S).length = S := by rw [List.length_take, List.length_drop, HL.out]; omega
  have hIE := fun W hw => isEnd_any (adv a c (j + 10 + q)) S (c - (j + 10 + q)) keys ((bs.drop (j + 10 + q)).take S) W hw hBL (by omega) (by omega) (by unfold maxLen; omega)
  have HA := Lib.hid (show Value.slice (adv (adv a c (j + 10)) (c - (j + 10)) q) S (c - (j + 10) - q) = .slice (adv a c (j + 10 + q)) S (c - (j + 10 + q)) by rw [adv_adv _ _ _ _ (by omega), Nat.sub_sub])
  rw [HA.out] at HC5
  have HROW := Lib.hid (show skEnd bs j keys = allFF ((bs.drop (j + 10 + q)).take S) keys from by unfold skEnd rowB; rw [HNN.out, HSS.out, decide_eq_true hN0, Bool.true_and, hq, hP])
  have HB5 := Lib.hid hB
  have HPP := Lib.hid hP
  have hPN : P < N := by omega
  have HCD := Lib.hid (show P + 1 = N by omega)
  have hN1 : (1 : Int) ≤ (N : Int) := by omega
  clear hB hBL HA hq hP1 hP
  generalize hE : allFF ((bs.drop (j + 10 + q)).take S) keys = E at *
  have HIE := Lib.hid hIE
  clear hIE hE
  cases E with
  | false =>
    have HM := Lib.hid (show skM bs j keys = N from by unfold skM; rw [HROW.out, HNN.out]; rfl)
    have hNP : (N : Int) - 1 = (P : Int) := by have := HCD.out; omega
    have hq1 := HQ1.out
    have hq2 : wrap64 ((P : Int) * (S : Int)) = (q : Int) := by rw [← IntWalk.i64_left]; exact hq1
    go_wp2_with (first
      | (go_at_call 94; refine (need_t _ (by first | rfl | (simp; omega)) _).mono ?_; rintro e w_ ⟨rfl, rfl⟩)
      | (go_at_call 142; (with_reducible refine (HRW.out _).mono ?_); rintro e w3 ⟨rfl, hb3⟩; have h3c := bc hb3; have h3f := bf hb3; have h3z := hb3.size; try simp only [World.size_alloc, World.size_drew] at h3z)
      | (go_at_call 134; (with_reducible refine (HC5.out _).mono ?_); rintro e w5 ⟨rfl, hb5⟩; have h5c := bc hb5; have h5f := bf hb5; have h5z := hb5.size; try simp only [World.size_alloc, World.size_drew] at h5z)
      )
    clear hNP hq1 hq2
    refine (HIE.out _ (HB5.out.below (HB2.out.trans (Below.mono (show Below wb.heap.size wb _ from (by repeat (first | with_reducible exact brefl _ | with_reducible assumption | (with_reducible refine bset ?_ (by first | (simp; done) | (simp; omega)) _) | with_reducible refine balloc ?_ _ | with_reducible refine bdrew ?_ _ | with_reducible refine bdrew1 ?_ | with_reducible refine bthen ?_ (by assumption) | with_reducible refine Below.trans ?_ (by assumption) | exact brefl _ | assumption | refine balloc ?_ _ | refine bdrew ?_ _ | refine bdrew1 ?_ | refine bthen ?_ (by assumption) | refine Below.trans ?_ (by assumption) | (refine bset ?_ (by first | (simp; done) | (simp; omega)) _)))) (by omega))))).mono ?_
    rintro e w7 ⟨rfl, hb7⟩
    have h7c := bc hb7
    have h7f := bf hb7
    have h7z := hb7.size
    go_wp2_with (first
      | (at_make; refine wpMake _ rfl _ _ 229 rfl w.heap.size 93 (.agg #[.slice none 0 0]) 1 24 Try.underlying229 view_info N rfl rfl (by omega) (by unfold maxLen; omega) (by first | omega | (simp; omega)) ?_; intro w4 hown hb4; have hz4 := hb4.size; (try simp only [World.size_alloc] at hz4); (try simp only [World.size_alloc] at hown); have HO := Lib.hid hown; have HB4 := Lib.hid hb4; clear hown hb4))
    have HBW := Lib.hid (show Below w.heap.size w w4 from by have hb4 := HB4.out; exact HB2.out.trans (Below.mono (show Below wb.heap.size wb w4 from (by repeat (first | with_reducible exact brefl _ | with_reducible assumption | (with_reducible refine bset ?_ (by first | (simp; done) | (simp; omega)) _) | with_reducible refine balloc ?_ _ | with_reducible refine bdrew ?_ _ | with_reducible refine bdrew1 ?_ | with_reducible refine bthen ?_ (by assumption) | with_reducible refine Below.trans ?_ (by assumption) | exact brefl _ | assumption | refine balloc ?_ _ | refine bdrew ?_ _ | refine bdrew1 ?_ | refine bthen ?_ (by assumption) | refine Below.trans ?_ (by assumption) | (refine bset ?_ (by first | (simp; done) | (simp; omega)) _)))) (by omega)))
    have c5 : w4.cell? ⟨w3.heap.size, 0, none⟩ = some (.slice (adv a c (j + 10)) (N * S) (c - (j + 10))) := (HB4.out.cell (p := ⟨w3.heap.size, 0, none⟩) (by simp; try omega)).trans (by rw [h7c, if_pos (by omega), h5c, if_pos (by simp)]; simp [hAC])
    have hgm := (HO.out.lt _ rfl).2
    have hgn := (HO.out.lt _ rfl).1
    have g5l : w3.heap.size < w4.heap.size := by omega
    obtain ⟨gm, hgm'⟩ : ∃ gm, gm = w7.heap.size := ⟨_, rfl⟩
    rw [← hgm'] at HO hgm hgn ⊢
    have hg5m : w3.heap.size < gm := by omega
    clear HB4 h3c h3f hb3 hgm' hz4 h5c h5f hb5 h7c h7f hb7
    generalize w3.heap.size = g5 at *
    go_loopw [50] (STakeRel w gm g5 a c j S N (.slice (adv a c (j + 10)) (N * S) (c - (j + 10)))) (fun i _ => N - (Go.RowKit.intOf i).toNat)
    case atStart => exact ⟨0, Nat.zero_le _, rfl, by have := HO.out; rw [made_views] at this; exact this, c5, HBW.out⟩
    case round =>
      obtain ⟨k, hkM, rfl, hown, d5, hbr⟩ := hrel
      have HO5 := Lib.hid hown
      have HBR := Lib.hid hbr
      have hzr := hbr.size
      clear hown hbr
      by_cases hlt : k < N
      · have hks : k * S + S ≤ N * S := by rw [← Nat.succ_mul]; exact Nat.mul_le_mul_right _ (by omega)
        obtain ⟨q, hq⟩ : ∃ q, q = k * S := ⟨_, rfl⟩
        have HQ1 := Lib.hid (show IntKind.i64.wrap ((k : Int) * (S : Int)) = (q : Int) by rw [← Int.natCast_mul, ← hq]; exact IntWalk.i64_in _ (by omega))
        have HC := Lib.hid (fun W => cut_z (adv a c (j + 10)) (N * S) (c - (j + 10)) q S (q : Int) (S : Int) rfl rfl W (by omega) (by omega) (by unfold maxLen; omega))
        have HRV := Lib.hid (show Value.slice (adv (adv a c (j + 10)) (c - (j + 10)) q) S (c - (j + 10) - q) = rowV a c (j + 10 + k * S) S by rw [adv_adv _ _ _ _ (by omega), hq, rowV, Nat.sub_sub])
        have hgr := (HO5.out.lt _ rfl).2
        have hF := fun i => World.ownsRow.frozenAt HO5.out i
        have HCE := Lib.hid (own_cell HO5.out (j := k) (by omega))
        have h5r : g5 < wr.heap.size := cell_lt d5
        clear hq hks
        obtain ⟨x0, hx0⟩ := HCE.out
        have hq1 := HQ1.out
        have hq2 : wrap64 ((k : Int) * (S : Int)) = (q : Int) := by rw [← IntWalk.i64_left]; exact hq1
        go_wp2_with (first | (go_at_call 134; (with_reducible refine (HC.out _).mono ?_); rintro e w6 ⟨rfl, hb6⟩; have h6c := bc hb6; have h6f := bf hb6; have h6z := hb6.size; try simp only [World.size_alloc, World.size_drew] at h6z))
        clear hq1 hq2
        rw [HRV.out]
        go_roundw
        case rel => exact stake_step hlt (by go_num) HO5.out d5 HBR.out (hb6.mono hzr) hb6 hg5m hgn
        case measure => simp [Go.RowKit.intOf]; omega
      · obtain rfl : k = N := by omega
        go_wp2
        go_ret
        exact ⟨.inl ⟨j, gm, rfl, HOK.out, by rw [HM.out]; rfl, by rw [HM.out, HSS.out]; have := HO5.out; rw [Nat.sub_self, show zerosV 0 = [] from rfl, List.append_nil] at this; exact this⟩, HBR.out⟩
  | true =>
    have HM := Lib.hid (show skM bs j keys = P from by unfold skM; rw [HROW.out, HNN.out, HPP.out]; rfl)
    have hNP : (N : Int) - 1 = (P : Int) := by have := HCD.out; omega
    have hq1 := HQ1.out
    have hq2 : wrap64 ((P : Int) * (S : Int)) = (q : Int) := by rw [← IntWalk.i64_left]; exact hq1
    go_wp2_with (first
      | (go_at_call 94; refine (need_t _ (by first | rfl | (simp; omega)) _).mono ?_; rintro e w_ ⟨rfl, rfl⟩)
      | (go_at_call 142; (with_reducible refine (HRW.out _).mono ?_); rintro e w3 ⟨rfl, hb3⟩; have h3c := bc hb3; have h3f := bf hb3; have h3z := hb3.size; try simp only [World.size_alloc, World.size_drew] at h3z)
      | (go_at_call 134; (with_reducible refine (HC5.out _).mono ?_); rintro e w5 ⟨rfl, hb5⟩; have h5c := bc hb5; have h5f := bf hb5; have h5z := hb5.size; try simp only [World.size_alloc, World.size_drew] at h5z)
      )
    clear hq1 hq2
    refine (HIE.out _ (HB5.out.below (HB2.out.trans (Below.mono (show Below wb.heap.size wb _ from (by repeat (first | with_reducible exact brefl _ | with_reducible assumption | (with_reducible refine bset ?_ (by first | (simp; done) | (simp; omega)) _) | with_reducible refine balloc ?_ _ | with_reducible refine bdrew ?_ _ | with_reducible refine bdrew1 ?_ | with_reducible refine bthen ?_ (by assumption) | with_reducible refine Below.trans ?_ (by assumption) | exact brefl _ | assumption | refine balloc ?_ _ | refine bdrew ?_ _ | refine bdrew1 ?_ | refine bthen ?_ (by assumption) | refine Below.trans ?_ (by assumption) | (refine bset ?_ (by first | (simp; done) | (simp; omega)) _)))) (by omega))))).mono ?_
    rintro e w7 ⟨rfl, hb7⟩
    have h7c := bc hb7
    have h7f := bf hb7
    have h7z := hb7.size
    go_wp2_with (first
      | (at_make; refine wpMake _ rfl _ _ 229 rfl w.heap.size 93 (.agg #[.slice none 0 0]) 1 24 Try.underlying229 view_info P rfl rfl (by omega) (by unfold maxLen; omega) (by first | omega | (simp; omega)) ?_; intro w4 hown hb4; have hz4 := hb4.size; (try simp only [World.size_alloc] at hz4); (try simp only [World.size_alloc] at hown); have HO := Lib.hid hown; have HB4 := Lib.hid hb4; clear hown hb4))
    clear hNP
    have HBW := Lib.hid (show Below w.heap.size w w4 from by have hb4 := HB4.out; exact HB2.out.trans (Below.mono (show Below wb.heap.size wb w4 from (by repeat (first | with_reducible exact brefl _ | with_reducible assumption | (with_reducible refine bset ?_ (by first | (simp; done) | (simp; omega)) _) | with_reducible refine balloc ?_ _ | with_reducible refine bdrew ?_ _ | with_reducible refine bdrew1 ?_ | with_reducible refine bthen ?_ (by assumption) | with_reducible refine Below.trans ?_ (by assumption) | exact brefl _ | assumption | refine balloc ?_ _ | refine bdrew ?_ _ | refine bdrew1 ?_ | refine bthen ?_ (by assumption) | refine Below.trans ?_ (by assumption) | (refine bset ?_ (by first | (simp; done) | (simp; omega)) _)))) (by omega)))
    have c5 : w4.cell? ⟨w3.heap.size, 0, none⟩ = some (.slice (adv a c (j + 10)) (N * S) (c - (j + 10))) := (HB4.out.cell (p := ⟨w3.heap.size, 0, none⟩) (by simp; try omega)).trans (by rw [h7c, if_pos (by omega), h5c, if_pos (by simp)]; simp [hAC])
    have hgm := (HO.out.lt _ rfl).2
    have hgn := (HO.out.lt _ rfl).1
    have g5l : w3.heap.size < w4.heap.size := by omega
    obtain ⟨gm, hgm'⟩ : ∃ gm, gm = w7.heap.size := ⟨_, rfl⟩
    rw [← hgm'] at HO hgm hgn ⊢
    have hg5m : w3.heap.size < gm := by omega
    clear HB4 h3c h3f hb3 hgm' hz4 h5c h5f hb5 h7c h7f hb7
    generalize w3.heap.size = g5 at *
    go_loopw [50] (STakeRel w gm g5 a c j S P (.slice (adv a c (j + 10)) (N * S) (c - (j + 10)))) (fun i _ => P - (Go.RowKit.intOf i).toNat)
    case atStart => exact ⟨0, Nat.zero_le _, rfl, by have := HO.out; rw [made_views] at this; exact this, c5, HBW.out⟩
    case round =>
      obtain ⟨k, hkM, rfl, hown, d5, hbr⟩ := hrel
      have HO5 := Lib.hid hown
      have HBR := Lib.hid hbr
      have hzr := hbr.size
      clear hown hbr
      by_cases hlt : k < P
      · have hks : k * S + S ≤ N * S := by rw [← Nat.succ_mul]; exact Nat.mul_le_mul_right _ (by omega)
        obtain ⟨q, hq⟩ : ∃ q, q = k * S := ⟨_, rfl⟩
        have HQ1 := Lib.hid (show IntKind.i64.wrap ((k : Int) * (S : Int)) = (q : Int) by rw [← Int.natCast_mul, ← hq]; exact IntWalk.i64_in _ (by omega))
        have HC := Lib.hid (fun W => cut_z (adv a c (j + 10)) (N * S) (c - (j + 10)) q S (q : Int) (S : Int) rfl rfl W (by omega) (by omega) (by unfold maxLen; omega))
        have HRV := Lib.hid (show Value.slice (adv (adv a c (j + 10)) (c - (j + 10)) q) S (c - (j + 10) - q) = rowV a c (j + 10 + k * S) S by rw [adv_adv _ _ _ _ (by omega), hq, rowV, Nat.sub_sub])
        have hgr := (HO5.out.lt _ rfl).2
        have hF := fun i => World.ownsRow.frozenAt HO5.out i
        have HCE := Lib.hid (own_cell HO5.out (j := k) (by omega))
        have h5r : g5 < wr.heap.size := cell_lt d5
        clear hq hks
        obtain ⟨x0, hx0⟩ := HCE.out
        have hq1 := HQ1.out
        have hq2 : wrap64 ((k : Int) * (S : Int)) = (q : Int) := by rw [← IntWalk.i64_left]; exact hq1
        go_wp2_with (first | (go_at_call 134; (with_reducible refine (HC.out _).mono ?_); rintro e w6 ⟨rfl, hb6⟩; have h6c := bc hb6; have h6f := bf hb6; have h6z := hb6.size; try simp only [World.size_alloc, World.size_drew] at h6z))
        clear hq1 hq2
        rw [HRV.out]
        go_roundw
        case rel => exact stake_step hlt (by go_num) HO5.out d5 HBR.out (hb6.mono hzr) hb6 hg5m hgn
        case measure => simp [Go.RowKit.intOf]; omega
      · obtain rfl : k = P := by omega
        go_wp2
        go_ret
        exact ⟨.inl ⟨j, gm, rfl, HOK.out, by rw [HM.out]; rfl, by rw [HM.out, HSS.out]; have := HO5.out; rw [Nat.sub_self, show zerosV 0 = [] from rfl, List.append_nil] at this; exact this⟩, HBR.out⟩
end Go.Proofs.Ytaladlaffglkeaa
end
section

/- The contract of seek.Place: where a number stands in a rising list. Condition: the list rises. -/
namespace Go.Proofs.Ytaladlaffglkeaa
open Go.RowKit

end Go.Proofs.Ytaladlaffglkeaa
end
section

/- Slices of numbers of two bytes as arguments. No condition. -/
namespace Go.Proofs.Ytaladlaffglkeaa
open Go.ChangeShapes Go.WideShapes Go.ChangeAt Go.RowKit
open Go.ChangeMaps (open_string shut_string)

end Go.Proofs.Ytaladlaffglkeaa
end
section

/- As Last, where the last operation may wait for the others by more of them, one behind the other. No condition of its own. -/
namespace Go.Proofs.Ytaladlaffglkeaa
open Go.RowKit

section
variable {P : Program} {ops : Array Oper} {Q : Exit → Act → World → Prop} {S : World → Prop} {md : Region.Mode} {z : Nat}

/-- Number z waits for number i, itself or by others, one behind the other. -/
def WaitsN (md : Region.Mode) (ops : Array Oper) : Nat → Nat → Nat → Prop
  | 0, z, i => Dir md ops z i
  | n + 1, z, i => Dir md ops z i ∨ ∃ k, k < ops.size ∧ Dir md ops z k ∧ WaitsN md ops n k i
def WaitsY (md : Region.Mode) (ops : Array Oper) (z i : Nat) : Prop := WaitsN md ops 6 z i
theorem waits_has {L : Array Bool} (hc : Closed md ops L) : ∀ (n z i : Nat), WaitsN md ops n z i → ∀ oz, ops[z]? = some oz → (∀ e ∈ oz.after, Region.binds md e = true → L.getD e.on false = true) → L.getD i false = true
  | 0, z, i, h, oz, ho, hall => by
    obtain ⟨e, he, hb, rfl⟩ := h oz ho
    exact hall e he hb
  | n + 1, z, i, h, oz, ho, hall => by
    rcases h with h | ⟨k, hk, h1, h2⟩
    · obtain ⟨e, he, hb, rfl⟩ := h oz ho
      exact hall e he hb
    · obtain ⟨e, he, hb, rfl⟩ := h1 oz ho
      have hok := Array.getElem?_eq_getElem hk
      exact waits_has hc n _ i h2 _ hok (hc _ _ hok (hall e he hb))
theorem not_ready_of_waitsY {L : Array Bool} {i : Nat} (hc : Closed md ops L) (hw : WaitsY md ops z i) (hi : i ∈ Region.ready md ops L) : z ∉ Region.ready md ops L := fun hz => by
  obtain ⟨_, oz, ho, hall⟩ := mem_ready.1 hz
  exact not_both (mem_ready.1 hi).1 (waits_has hc 6 z i hw oz ho hall)
/-- What looks may be taken first. -/
theorem wpBut_firstY {i : Nat} {oi : Oper} {v : Value} (hi : ops[i]? = some oi) (hs : Region.noSelect ops = true) (hQ : ∀ c a w, Q (.panic c) (a.put oi.dst v) w → Q (.panic c) a w) (hiz : i ≠ z) (hwz : WaitsY md ops z i) :
    ∀ (n : Nat) (L : Array Bool) (a : Act) (w : World), Closed md ops L →
      (∀ j oj, ops[j]? = some oj → j ≠ i → L.getD j true = false → (∀ e ∈ oj.after, Region.binds md e = true → e.on ≠ i) → oi.apart ops oj = true) →
      i ∈ Region.ready md ops L → YieldsIf P ops S oi v a → S w → wpBut P md ops Q z S n (L.setIfInBounds i true) (a.put oi.dst v) w → wpBut P md ops Q z S (n + 1) L a w
  | 0, L, a, w, _, _, hr, hy, hS, H => by
    refine ⟨fun h => (by rw [h] at hr; cases hr), fun j hj => ?_⟩
    by_cases hji : j = i
    · subst hji; exact hy.wpOp hi hS ⟨.inr hS, H⟩
    · have := ready_mono hj hji
      rw [H.1] at this; cases this
  | n + 1, L, a, w, hc, hfree, hr, hy, hS, H => by
    refine ⟨fun h => (by rw [h] at hr; cases hr), fun j hj => ?_⟩
    by_cases hji : j = i
    · subst hji; exact hy.wpOp hi hS ⟨.inr hS, H⟩
    have hjz : j ≠ z := fun h => not_ready_of_waitsY hc hwz hr (h ▸ hj)
    obtain ⟨hjL, oj, hoj, hall⟩ := mem_ready.1 hj
    have hno : ∀ e ∈ oj.after, Region.binds md e = true → e.on ≠ i := fun e he hb heq => by
      have h1 := hall e he hb
      have h0 := (mem_ready.1 hr).1
      rw [heq] at h1
      rcases Nat.lt_or_ge i L.size with g | g
      · simp [g] at h0 h1; rw [h0] at h1; cases h1
      · simp [Array.getElem?_eq_none g] at h1
    have key := wpOp_putIf hoj (hfree j oj hoj hji hjL hno) (fun cs b => Region.noSelect_spec hs i oi cs b hi) (fun cs b => Region.noSelect_spec hs j oj cs b hoj) hQ hy (H.2 j (ready_mono hj hji))
    refine wpOp_mono (fun b u g => ?_) key
    have hSu : S u := g.2.1.resolve_left hjz
    refine ⟨.inr hSu, wpBut_firstY hi hs hQ hiz hwz n _ b u (hc.put hj) (fun k ok hk hki hkL hkn => hfree k ok hk hki ?_ hkn) (ready_mono hr (Ne.symm hji)) g.1 hSu ?_⟩
    · by_cases hjk : j = k
      · subst hjk; exact hjL
      · rw [getD_set_ne true hjk] at hkL; exact hkL
    · rw [Array.setIfInBounds_comm _ _ hji]
      exact g.2.2

def waitB (ops : Array Oper) : Nat → Nat → Nat → Bool
  | 0, z, i => dirB ops z i
  | n + 1, z, i => dirB ops z i || (List.range ops.size).any fun k => dirB ops z k && waitB ops n k i
theorem wait_of {ops : Array Oper} : ∀ (n z i : Nat), waitB ops n z i = true → WaitsN .any ops n z i
  | 0, z, i, h => dir_of h
  | n + 1, z, i, h => by
    simp only [waitB, Bool.or_eq_true] at h
    rcases h with h | h
    · exact .inl (dir_of h)
    · obtain ⟨k, hk, hb⟩ := List.any_eq_true.1 h
      simp only [Bool.and_eq_true] at hb
      exact .inr ⟨k, List.mem_range.1 hk, dir_of hb.1, wait_of n k i hb.2⟩
/-- Number z comes at the very end of the chain, looks at nothing, and waits for all others. -/
def lastBY (ops : Array Oper) (z : Nat) : Bool := match ops[z]? with
  | some oz => !quietOp oz.op && (List.range ops.size).all fun i => i == z || waitB ops 6 z i
  | none => false
theorem wpBut_of_treeY (hs : Region.noSelect ops = true) (hz : lastBY ops z = true) (hQ : ∀ (c : List PanicEntry) (a : Act) (d : Option Tmp) (v : Value) (w : World), Q (.panic c) (a.put d v) w → Q (.panic c) a w) :
    ∀ (t : Tree) (S : World → Prop) (L : Array Bool) (a : Act) (w : World), Closed .any ops L → treeB ops t L = true → endB z t = true → S w → wpTreeZ P ops Q z S t a w → wpBut P .any ops Q z S t.deep L a w
  | .nil, S, L, a, w, _, hB, _, _, h => ⟨by simpa [treeB] using hB, by simpa only [wpTreeZ] using h⟩
  | .narrow r, S, L, a, w, hc, hB, hE, hS, h => by
    simp only [wpTreeZ] at h
    obtain ⟨S', h1, h2, h3⟩ := h
    exact wpBut_class h1 _ _ _ _ (wpBut_of_treeY hs hz hQ r S' L a w hc (by simpa [treeB] using hB) (by simpa [endB] using hE) h2 h3)
  | .two _ _ _ _, S, L, a, w, _, _, _, _, h => by simp only [wpTreeZ] at h
  | .step i r, S, L, a, w, hc, hB, hE, hS, h => by
    simp only [treeB, Bool.and_eq_true] at hB
    obtain ⟨hB1, hB2⟩ := hB
    simp only [endB, Bool.and_eq_true] at hE
    obtain ⟨hE1, hE2⟩ := hE
    simp only [wpTreeZ] at h
    cases ho : ops[i]? with
    | none => rw [ho] at h; exact h.elim
    | some o =>
      rw [ho] at h hB1
      simp only at h hB1
      have hiL : i < ops.size := (Array.getElem?_eq_some_iff.1 ho).1
      by_cases hq : quietOp o.op = true
      · rw [if_pos hq] at hB1
        simp only [Bool.and_eq_true] at hB1
        have hready : i ∈ Region.ready .any ops L := by simpa using hB1.1
        have hzz : i ≠ z ∧ WaitsY .any ops z i := by
          unfold lastBY at hz
          cases hoz : ops[z]? with
          | none => rw [hoz] at hz; cases hz
          | some oz =>
            rw [hoz] at hz
            simp only [Bool.and_eq_true, Bool.not_eq_true', List.all_eq_true, List.mem_range, Bool.or_eq_true, beq_iff_eq] at hz
            have hne : i ≠ z := fun h => by
              subst h
              rw [ho] at hoz; cases hoz
              rw [hq] at hz; cases hz.1
            refine ⟨hne, ?_⟩
            rcases hz.2 i hiL with h | h
            · exact absurd h hne
            · exact wait_of 6 z i h
        by_cases hw : Region.wanted o (yielded ops a.tmps) = true
        · rw [if_pos hw, if_pos hq] at h
          obtain ⟨v, hv, h'⟩ := h
          exact wpBut_firstY ho hs (fun c a w => hQ c a _ _ w) hzz.1 hzz.2 r.deep L a w hc (Region.free_spec ho hB1.2) hready (.inl ⟨hw, hv⟩) hS (wpBut_of_treeY hs hz hQ r S _ _ _ (hc.put hready) hB2 hE2 hS h')
        · rw [if_neg hw] at h
          exact wpBut_firstY ho hs (fun c a w => hQ c a _ _ w) hzz.1 hzz.2 r.deep L a w hc (Region.free_spec ho hB1.2) hready (.inr ⟨by simpa using hw, rfl⟩) hS (wpBut_of_treeY hs hz hQ r S _ _ _ (hc.put hready) hB2 hE2 hS h)
      · rw [if_neg hq] at hB1
        have hready : Region.ready .any ops L = [i] := by simpa using hB1
        refine ⟨fun h0 => (by rw [h0] at hready; cases hready), fun j hj => ?_⟩
        obtain rfl : j = i := by rw [hready] at hj; simpa using hj
        have hgo : ∀ b u, (j = z ∨ S u) → wpTreeZ P ops Q z S r b u → wpBut P .any ops Q z S r.deep (L.setIfInBounds j true) b u := fun b u hS' ht => by
          rcases hS' with hjz | hSu
          · subst hjz
            match r, hE1, hB2, ht with
            | .nil, _, hB2, ht => exact ⟨by simpa [treeB] using hB2, by simpa only [wpTreeZ] using ht⟩
            | .step _ _, hE1, _, _ => simp at hE1
            | .two _ _ _ _, hE1, _, _ => simp at hE1
            | .narrow _, hE1, _, _ => simp at hE1
          · exact wpBut_of_treeY hs hz hQ r S _ _ _ (hc.put hj) hB2 hE2 hSu ht
        by_cases hw : Region.wanted o (yielded ops a.tmps) = true
        · rw [if_pos hw, if_neg hq] at h
          refine wpOp_run ho hw ?_
          exact Oper.wp_mono (fun a' w' g => ⟨g.1, hgo a' w' g.1 g.2⟩) h
        · rw [if_neg hw] at h
          exact wpOp_skip ho hw ⟨.inr hS, hgo _ _ (.inr hS) h⟩

theorem wp_region_lastY {id : Nat} {a : Act} {w : World} {l : List Oper} (t : Tree) (z : Nat) (hm : P.follows .mixedOrders = true) (hs : Region.noSelect l.toArray = true) (hlen : decide (l.toArray.size = t.deep) = true)
    (hB : treeB l.toArray t (Array.replicate l.toArray.size false) = true) (hz : (lastBY l.toArray z && endB z t) = true)
    (hQ : ∀ (c : List PanicEntry) (a : Act) (d : Option Tmp) (v : Value) (w : World), Q (.panic c) (a.put d v) w → Q (.panic c) a w) (S : World → Prop) (hS : S w.drew)
    (h : wpTreeZ P l.toArray Q z S t a w.drew) : (Code.region id l.toArray true).wp P Q a w := by
  simp only [Bool.and_eq_true] at hz
  refine wp_region_any hm ?_
  have := wpAny_of_but _ _ _ _ (wpBut_of_treeY hs hz.1 hQ t S _ a w.drew (closed_start _) hB hz.2 hS h)
  rw [of_decide_eq_true hlen]
  rw [of_decide_eq_true hlen] at this
  exact this
end
end Go.Proofs.Ytaladlaffglkeaa
end
