
/- A statement whose order Go leaves open, walked once: operations that only read are taken in a chosen order, each shown to yield one value in every world of a class; the others come in the one order that is left to them. No condition of its own. -/
import Derived.Test.YthjnpfhcjacibaaBase
import Derived.OrdersHeld
import Derived.RegionTactic
namespace Go.Proofs.Ythjnpfhcjacibaa
open Go.RowKit

/-- Does an operation only look: no new memory, no store, no call of a function? -/
def quietOp : Op → Bool
  | .move _ | .assign _ | .pick .. | .build .. | .load .. | .nilCheck _ | .binOp .. | .unOp .. | .makeInterface .. | .makeFunc .. | .slice .. | .fieldAddr .. | .field .. | .indexAddr .. | .index .. | .typeAssert .. | .extract .. | .convert .. => true
  | .call c => match c.callee with | .builtin .len => true | .builtin .cap => true | .builtin .min => true | .builtin .max => true | _ => false
  | _ => false

section
variable {P : Program} {ops : Array Oper} {Q : Exit → Act → World → Prop} {S : World → Prop}

def wpOrd (P : Program) (ops : Array Oper) (Q : Exit → Act → World → Prop) (S : World → Prop) : List Nat → Act → World → Prop
  | [], a, w => Q .normal a w
  | i :: r, a, w => match ops[i]? with
    | none => False
    | some o =>
      if Region.wanted o (yielded ops a.tmps) = true then
        (if quietOp o.op = true then ∃ v, (∀ w', S w' → (execOp a.eval o).run P w' = .ok (.value v) w') ∧ wpOrd P ops Q S r (a.put o.dst v) w
         else o.wp P a w (fun a' w' => S w' ∧ wpOrd P ops Q S r a' w') Q)
      else wpOrd P ops Q S r (a.put o.dst undef) w

def ordB (ops : Array Oper) : List Nat → Array Bool → Bool
  | [], listed => (Region.ready .any ops listed).isEmpty
  | i :: r, listed => (match ops[i]? with
    | some o => if quietOp o.op then (Region.ready .any ops listed).contains i && Region.free .any ops listed i else decide (Region.ready .any ops listed = [i])
    | none => false) && ordB ops r (listed.setIfInBounds i true)

theorem wpOp_skip {i : Nat} {o : Oper} {K : Act → World → Prop} {a : Act} {w : World} (ho : ops[i]? = some o) (hw : ¬ Region.wanted o (yielded ops a.tmps) = true) (h : K (a.put o.dst undef) w) : wpOp P ops Q i K a w := by
  unfold wpOp
  rw [ho]
  show if Region.wanted o (yielded ops a.tmps) = true then _ else _
  rw [if_neg hw]; exact h
theorem wpOp_run {i : Nat} {o : Oper} {K : Act → World → Prop} {a : Act} {w : World} (ho : ops[i]? = some o) (hw : Region.wanted o (yielded ops a.tmps) = true) (h : o.wp P a w K Q) : wpOp P ops Q i K a w := by
  unfold wpOp
  rw [ho]
  show if Region.wanted o (yielded ops a.tmps) = true then _ else _
  rw [if_pos hw]; exact .inl h

theorem wpAnyH_of_ord (hs : Region.noSelect ops = true) (hQ : ∀ (c : List PanicEntry) (a : Act) (d : Option Tmp) (v : Value) (w : World), Q (.panic c) (a.put d v) w → Q (.panic c) a w) :
    ∀ (ord : List Nat) (listed : Array Bool) (a : Act) (w : World), ordB ops ord listed = true → S w → wpOrd P ops Q S ord a w → wpAnyH P .any ops Q S ord.length listed a w
  | [], listed, a, w, hB, _, h => ⟨by simpa [ordB] using hB, h⟩
  | i :: r, listed, a, w, hB, hS, h => by
    simp only [ordB, Bool.and_eq_true] at hB
    obtain ⟨hB1, hB2⟩ := hB
    simp only [wpOrd] at h
    cases ho : ops[i]? with
    | none => rw [ho] at h; exact h.elim
    | some o =>
      rw [ho] at h hB1
      simp only at h hB1
      by_cases hq : quietOp o.op = true
      · rw [if_pos hq] at hB1
        simp only [Bool.and_eq_true] at hB1
        have hready : i ∈ Region.ready .any ops listed := by simpa using hB1.1
        by_cases hw : Region.wanted o (yielded ops a.tmps) = true
        · rw [if_pos hw, if_pos hq] at h
          obtain ⟨v, hv, h'⟩ := h
          exact wpAnyH_first ho (Region.noSelect_spec hs) (fun c a w => hQ c a _ _ w) r.length listed a w (Region.free_spec ho hB1.2) hready (.inl ⟨hw, hv⟩) hS (wpAnyH_of_ord hs hQ r _ _ _ hB2 hS h')
        · rw [if_neg hw] at h
          exact wpAnyH_first ho (Region.noSelect_spec hs) (fun c a w => hQ c a _ _ w) r.length listed a w (Region.free_spec ho hB1.2) hready (.inr ⟨by simpa using hw, rfl⟩) hS (wpAnyH_of_ord hs hQ r _ _ _ hB2 hS h)
      · rw [if_neg hq] at hB1
        have hready : Region.ready .any ops listed = [i] := by simpa using hB1
        refine wpAnyH_all hready (by simp) fun j hj => ?_
        obtain rfl : j = i := by simpa using hj
        by_cases hw : Region.wanted o (yielded ops a.tmps) = true
        · rw [if_pos hw, if_neg hq] at h
          refine wpOp_run ho hw ?_
          exact Oper.wp_mono (fun a' w' g => ⟨g.1, wpAnyH_of_ord hs hQ r _ _ _ hB2 g.1 g.2⟩) h
        · rw [if_neg hw] at h
          exact wpOp_skip ho hw ⟨hS, wpAnyH_of_ord hs hQ r _ _ _ hB2 hS h⟩

theorem wp_region_ord {id : Nat} {a : Act} {w : World} {l : List Oper} (ord : List Nat) (hm : P.follows .mixedOrders = true) (hs : Region.noSelect l.toArray = true) (hlen : decide (l.toArray.size = ord.length) = true)
    (hB : ordB l.toArray ord (Array.replicate l.toArray.size false) = true)
    (hQ : ∀ (c : List PanicEntry) (a : Act) (d : Option Tmp) (v : Value) (w : World), Q (.panic c) (a.put d v) w → Q (.panic c) a w) (S : World → Prop) (hS : S w.drew)
    (h : wpOrd P l.toArray Q S ord a w.drew) : (Code.region id l.toArray true).wp P Q a w := by
  refine wp_region_held (S := S) hm ?_
  have := wpAnyH_of_ord hs hQ ord _ a w.drew hB hS h
  rw [of_decide_eq_true hlen]
  rw [of_decide_eq_true hlen] at this
  exact this

/-! The steps of a walk. -/
theorem ord_nil {a : Act} {w : World} (h : Q .normal a w) : wpOrd P ops Q S [] a w := h
theorem bind_value {s : Sem Value} {w w' : World} {n : Next} (h : (do let x ← s; pure (Next.value x) : Sem Next).run P w = .ok n w') : ∃ v, n = .value v := by
  rw [Sem.run_bind] at h
  cases hr : s.run P w with
  | ok v w1 =>
    rw [hr] at h
    simp only [Result.andThen, Sem.run_pure, Result.ok.injEq] at h
    exact ⟨v, h.1.symm⟩
  | halt x w1 => rw [hr] at h; cases h
/-- What only looks yields a value. -/
theorem quiet_next {o : Oper} {ρ : Operand → Value} {w w' : World} {n : Next} (hq : quietOp o.op = true) (h : (execOp ρ o).run P w = .ok n w') : ∃ v, n = .value v := by
  obtain ⟨d, op, ty, ps, af, gd⟩ := o
  cases op <;> simp only [quietOp, Bool.false_eq_true] at hq
  case call c =>
    obtain ⟨ce, args, at'⟩ := c
    cases ce <;> simp only [Bool.false_eq_true] at hq
    rename_i b
    cases b <;> simp only [Bool.false_eq_true] at hq
    all_goals
      simp only [execOp, resolve, Sem.run_bind, Sem.run_pure, Result.andThen_ok, invoke, builtin] at h
      exact bind_value (by simpa only [Sem.run_bind, Sem.run_pure] using h)
  case nilCheck x =>
    simp only [execOp] at h
    split at h
    · simp [runtimePanic, goPanic, Sem.run_bind] at h
    · simp [runtimePanic, goPanic, Sem.run_bind] at h
    · simp [runtimePanic, goPanic, Sem.run_bind] at h
    · split at h
      · simp [runtimePanic, goPanic, Sem.run_bind] at h
      · rw [Sem.run_bind] at h
        cases hr : (program : Sem Program).run P w with
        | ok p w1 =>
          rw [hr] at h
          simp only [Result.andThen] at h
          rw [Sem.run_bind] at h
          cases hr2 : Sem.run P (nilAhead (p.types.size + Made.depth) _ _ _) w1 with
          | ok x w2 =>
            rw [hr2] at h
            simp only [Result.andThen] at h
            split at h
            · simp [unsupported, Sem.run_bind] at h
            · simp only [Sem.run_pure, Result.ok.injEq] at h; exact ⟨_, h.1.symm⟩
          | halt x w2 => rw [hr2] at h; cases h
        | halt x w1 => rw [hr] at h; cases h
      · simp only [Sem.run_pure, Result.ok.injEq] at h; exact ⟨_, h.1.symm⟩
    · simp only [Sem.run_pure, Result.ok.injEq] at h; exact ⟨_, h.1.symm⟩
  case move x => simp only [execOp, Sem.run_pure, Result.ok.injEq] at h; exact ⟨_, h.1.symm⟩
  case assign x => simp only [execOp, Sem.run_pure, Result.ok.injEq] at h; exact ⟨_, h.1.symm⟩
  case pick c a b =>
    simp only [execOp] at h
    rw [Sem.run_bind] at h
    cases hr : (asBool (ρ c)).run P w with
    | ok v w1 =>
      rw [hr] at h
      simp only [Result.andThen, Sem.run_pure, Result.ok.injEq] at h
      exact ⟨_, h.1.symm⟩
    | halt x w1 => rw [hr] at h; cases h
  all_goals exact bind_value h
theorem quiet_value {o : Oper} {a : Act} {w : World} {v : Value} (hq : quietOp o.op = true) (h : o.quietAt P a S w v) : (execOp a.eval o).run P w = .ok (.value v) w := by
  unfold Oper.quietAt at h
  cases hr : (execOp a.eval o).run P w with
  | ok n w1 =>
    obtain ⟨u, rfl⟩ := quiet_next hq hr
    rw [hr] at h
    simp only [Oper.quietUpon] at h
    rw [h.1, h.2]
  | halt x w1 => rw [hr] at h; simp only [Oper.quietUpon] at h
theorem ord_quiet {i : Nat} {r : List Nat} {a : Act} {w : World} {o : Oper} (ho : ops[i]? = some o) (hq : quietOp o.op = true) (hw : Region.wanted o (yielded ops a.tmps) = true)
    (h : ∀ K : Act → Prop, (∀ a, wpOrd P ops Q S r a w → K a) → o.quiet P a S K) : wpOrd P ops Q S (i :: r) a w := by
  obtain ⟨v, h1, h2⟩ := h _ (fun _ h => h)
  simp only [wpOrd, ho]
  rw [if_pos hw, if_pos hq]
  exact ⟨v, fun w' hw' => quiet_value hq (h1 w' hw'), h2⟩
theorem ord_skip {i : Nat} {r : List Nat} {a : Act} {w : World} {o : Oper} (ho : ops[i]? = some o) (hw : Region.wanted o (yielded ops a.tmps) = false) (h : wpOrd P ops Q S r (a.put o.dst undef) w) : wpOrd P ops Q S (i :: r) a w := by
  simp only [wpOrd, ho]
  rw [if_neg (by rw [hw]; exact Bool.false_ne_true)]
  exact h
theorem ord_run {i : Nat} {r : List Nat} {a : Act} {w : World} {o : Oper} (ho : ops[i]? = some o) (hq : quietOp o.op = false) (hw : Region.wanted o (yielded ops a.tmps) = true)
    (h : ∀ K : Act → World → Prop, (∀ a w, S w → wpOrd P ops Q S r a w → K a w) → o.wp P a w K Q) : wpOrd P ops Q S (i :: r) a w := by
  simp only [wpOrd, ho]
  rw [if_pos hw, if_neg (by rw [hq]; exact Bool.false_ne_true)]
  exact h _ fun _ _ h1 h2 => ⟨h1, h2⟩
end

/-! The class of worlds: as at the region's beginning, but for new blocks and the blocks of a list. -/
structure Same (w : World) (X : List Nat) (w' : World) : Prop where
  size : w.heap.size ≤ w'.heap.size
  block : ∀ k, k < w.heap.size → k ∉ X → w'.heap[k]? = w.heap[k]?
structure Wld (w : World) (X : List Nat) where
  val : World
  is : Same w X val
theorem same_below {w w' : World} {X : List Nat} (h : Below w.heap.size w w') : Same w X w' := ⟨h.size, fun k hk _ => h.block k hk⟩
instance (w : World) (X : List Nat) : Nonempty (Wld w X) := ⟨⟨w, same_below (brefl w)⟩⟩
theorem same_then {w W w1 : World} {X : List Nat} (h : Same w X W) (hb : Below W.heap.size W w1) : Same w X w1 :=
  ⟨Nat.le_trans h.size hb.size, fun k hk hX => (hb.block k (Nat.lt_of_lt_of_le hk h.size)).trans (h.block k hk hX)⟩
theorem same_set {w W : World} {X : List Nat} (h : Same w X W) {p : Addr} (hp : p.block ∈ X ∨ w.heap.size ≤ p.block) (v : Value) : Same w X (W.setCell p v) :=
  ⟨by simpa using h.size, fun k hk hX => by
    rw [Below.heap_setCell _ _ _ _ (by rintro rfl; rcases hp with hp | hp; exact hX hp; omega)]; exact h.block k hk hX⟩
theorem same_alloc {w W : World} {X : List Nat} (h : Same w X W) (o : Obj) : Same w X (W.alloc o) := same_then h (balloc (brefl _) o)
theorem wld_start (w : World) (X : List Nat) : ∃ p : Wld w X, w.drew = p.val := ⟨⟨w.drew, same_below (bdrew1 (brefl w))⟩, rfl⟩
theorem wld_of {w W : World} {X : List Nat} (h : Same w X W) : ∃ p : Wld w X, W = p.val := ⟨⟨W, h⟩, rfl⟩
theorem wldC {w : World} (p : Wld w []) (b o : Nat) : p.val.cell? ⟨b, o, none⟩ = if b < w.heap.size then w.cell? ⟨b, o, none⟩ else opqC p.val b o := by
  split
  · rename_i h; exact World.cell?_of_block (p.is.block b h (by simp))
  · rfl
theorem wldC1 {w : World} {x : Nat} (p : Wld w [x]) (b o : Nat) : p.val.cell? ⟨b, o, none⟩ = if b < w.heap.size ∧ ¬ b = x then w.cell? ⟨b, o, none⟩ else opqC p.val b o := by
  split
  · rename_i h; exact World.cell?_of_block (p.is.block b h.1 (by simpa using h.2))
  · rfl
theorem wldC2 {w : World} {x y : Nat} (p : Wld w [x, y]) (b o : Nat) : p.val.cell? ⟨b, o, none⟩ = if b < w.heap.size ∧ ¬ b = x ∧ ¬ b = y then w.cell? ⟨b, o, none⟩ else opqC p.val b o := by
  split
  · rename_i h; exact World.cell?_of_block (p.is.block b h.1 (by simpa using h.2))
  · rfl
end Go.Proofs.Ythjnpfhcjacibaa
