/- Joined from: Base View Nums Own Ord Tree Zed Frame. -/
import Derived.Test.YtbicnkopmamnpaaRows
import Derived.WalkKit
import Derived.WalkSpells
import Derived.WalkLawsBesides
import Derived.Lib.QuietBelow
import Derived.BigQuiet
import Derived.Lib.Hide
import Derived.Laws.BytesArg
import Derived.Laws.AppendOwnNone
import Derived.OrdersHeld
import Derived.RegionTactic
import Derived.Laws.OwnMore
import Derived.ProofKit
import Derived.OpenShut
import Derived.ShutString
import Derived.ChangeOld
import Derived.SizedLaws
import Derived.Lib.SmallJoins
import Derived.Deep.Slices
namespace Go.Proofs.Ytbicnkopmamnpaa
theorem gtA {p : Prop} (h : p := by simp only [List.getElem?_toArray, List.getElem?_cons_succ, List.getElem?_cons_zero]; rfl) : p := h
end Go.Proofs.Ytbicnkopmamnpaa
section

/- Small lemmas on worlds, over any program: cells and marks behind a call that leaves all old blocks, and behind a new block. No condition. -/
namespace Go.Proofs.Ytbicnkopmamnpaa
open Go.RowKit

def opqC (w : World) (b o : Nat) : Option Value := w.cell? ⟨b, o, none⟩
def opqF (w : World) (b o : Nat) : Bool := w.frozen? ⟨b, o, none⟩
theorem bc {W w1 : World} (hb : Below W.heap.size W w1) (b o : Nat) : w1.cell? ⟨b, o, none⟩ = if b < W.heap.size then W.cell? ⟨b, o, none⟩ else opqC w1 b o := by
  split
  · rename_i h; exact hb.cell (p := ⟨b, o, none⟩) h
  · rfl
theorem bf {W w1 : World} (hb : Below W.heap.size W w1) (b o : Nat) : w1.frozen? ⟨b, o, none⟩ = if b < W.heap.size then W.frozen? ⟨b, o, none⟩ else opqF w1 b o := by
  split
  · rename_i h; exact hb.frozen (p := ⟨b, o, none⟩) h
  · rfl
theorem heap_push (w : World) (o : Obj) (b : Nat) : (w.alloc o).heap[b]? = if b = w.heap.size then some o else w.heap[b]? := by
  show (w.heap.push o)[b]? = _
  rw [Array.getElem?_push]
theorem allocC (w : World) (cs : Array Value) (t b o : Nat) : (w.alloc (.cells cs t)).cell? ⟨b, o, none⟩ = if b = w.heap.size then cs[o]? else w.cell? ⟨b, o, none⟩ := by
  unfold World.cell?
  rw [heap_push]
  by_cases h : b = w.heap.size <;> simp [h]
theorem allocF (w : World) (cs : Array Value) (t b o : Nat) : (w.alloc (.cells cs t)).frozen? ⟨b, o, none⟩ = if b = w.heap.size then false else w.frozen? ⟨b, o, none⟩ := by
  unfold World.frozen?
  rw [heap_push]
  by_cases h : b = w.heap.size <;> simp [h]
/-- Two steps: the second leaves what the first leaves. -/
theorem bthen {w W w1 : World} (h : Below w.heap.size w W) (hb : Below W.heap.size W w1) : Below w.heap.size w w1 := h.trans (hb.mono h.size)
theorem brefl (w : World) : Below w.heap.size w w := Below.refl _ _
theorem balloc {w W : World} (h : Below w.heap.size w W) (o : Obj) : Below w.heap.size w (W.alloc o) := h.alloc h.size o
theorem bdrew {w W : World} (h : Below w.heap.size w W) (n : Nat) : Below w.heap.size w (W.drewN n) := ⟨h.os, h.tape, h.output, h.size, h.block⟩
theorem bdrew1 {w W : World} (h : Below w.heap.size w W) : Below w.heap.size w W.drew := h.drew
theorem bset {w W : World} (h : Below w.heap.size w W) {p : Addr} (hp : w.heap.size ≤ p.block) (v : Value) : Below w.heap.size w (W.setCell p v) := h.setCell hp v

/-- The cells from an address on hold these values, one behind the other. -/
def Has (w : World) (a : Option Addr) (xs : List Value) : Prop := ∀ j u, xs[j]? = some u → ∃ p, a = some p ∧ w.cell? (p.add j) = some u
theorem cell_lt {w : World} {p : Addr} {v : Value} (h : w.cell? p = some v) : p.block < w.heap.size := World.block_lt_of_cell? w p h
theorem add_block (p : Addr) (j : Nat) : (p.add j).block = p.block := by unfold Addr.add; split <;> rfl
theorem Has.below {w w' : World} {a : Option Addr} {xs : List Value} (h : Has w a xs) (hb : Below w.heap.size w w') : Has w' a xs := by
  intro j u hu
  obtain ⟨p, hp, hc⟩ := h j u hu
  exact ⟨p, hp, by rw [hb.cell (cell_lt hc)]; exact hc⟩
theorem spot_none {w : World} {p : Addr} {v : Value} (h : w.cell? p = some v) : p.spot = none := by
  unfold World.cell? at h
  split at h
  · split at h
    · cases h
    · rename_i hs; simpa using hs
  · cases h
theorem Has.nil (w : World) (a : Option Addr) : Has w a [] := fun _ _ h => by simp at h
/-- An element's cell, its address written out. -/
theorem Has.get {w : World} {a : Option Addr} {xs : List Value} (h : Has w a xs) (h0 : 0 < xs.length) :
    ∃ b o, a = some ⟨b, o, none⟩ ∧ b < w.heap.size ∧ ∀ j u, xs[j]? = some u → w.cell? ⟨b, o + j, none⟩ = some u := by
  obtain ⟨p, hp, hc⟩ := h 0 _ (List.getElem?_eq_getElem h0)
  have hs := spot_none hc
  have hlt := cell_lt hc
  obtain ⟨b, o, s⟩ := p
  simp [Addr.add] at hs hlt
  subst hs
  refine ⟨b, o, hp, hlt, fun j u hu => ?_⟩
  obtain ⟨q, hq, hd⟩ := h j u hu
  rw [hp] at hq
  cases hq
  unfold Addr.add at hd
  split at hd
  · rename_i hj; subst hj; exact hd
  · exact hd
theorem has_of_owns {w : World} {base e size n m c : Nat} {a : Option Addr} {xs : List Value} (h : w.ownsRow base e size (.slice a m c) n xs) : Has w a xs := by
  rcases h.2 with ⟨hv, rfl⟩ | ⟨g, cap, cur, hv, _⟩
  · have : xs = [] := List.eq_nil_of_length_eq_zero (by simpa using h.1)
    subst this
    exact Has.nil _ _
  · injection hv with h1 h2 h3
    subst h1
    exact fun j u hu => ⟨_, rfl, h.cells (g := g) rfl j u hu⟩
/-- What is owned from a base on stays owned where the world has turned from a higher base on alone. -/
theorem owns_below {w w' : World} {base e size n B : Nat} {v : Value} {xs : List Value} (h : w.ownsRow base e size v n xs) (hb : Below B w w') (hB : w.heap.size ≤ B) : w'.ownsRow base e size v n xs := by
  refine ⟨h.1, ?_⟩
  rcases h.2 with g | ⟨g, cap, cur, hv, hg, hh, r⟩
  · exact .inl g
  · exact .inr ⟨g, cap, cur, hv, hg, by rw [hb.block g (Nat.lt_of_lt_of_le (Array.getElem?_eq_some_iff.1 hh).1 hB)]; exact hh, r⟩

theorem owns_mono {w : World} {base base' : Nat} {e : TypeId} {size : Nat} {v : Value} {n : Nat} {xs : List Value} (h : w.ownsRow base e size v n xs) (hb : base' ≤ base) : w.ownsRow base' e size v n xs := by
  refine ⟨h.1, ?_⟩
  rcases h.2 with g | ⟨g, cap, cur, hv, hg, r⟩
  · exact .inl g
  · exact .inr ⟨g, cap, cur, hv, Nat.le_trans hb hg, r⟩
theorem owns_slice {w : World} {base e size n : Nat} {v : Value} {xs : List Value} (h : w.ownsRow base e size v n xs) : ∃ a c, v = .slice a n c ∧ n ≤ c ∧ c ≤ maxLen ∧ (a = none → c = 0) := by
  rcases h.2 with ⟨rfl, rfl⟩ | ⟨g, cap, cur, rfl, _, _, hn, hm, _⟩
  · exact ⟨none, 0, rfl, Nat.le_refl _, Nat.zero_le _, fun _ => rfl⟩
  · exact ⟨_, cap, rfl, hn, hm, fun h => by cases h⟩
/-- 'append' onto a slice of the call's own, whatever is appended: nil, or cells that are read. -/
theorem wpApp {P : Program} {w : World} {ops : Array Oper} {rest : List Oper} {o : Oper} {a : Act} {Q : Exit → Act → World → Prop} (hgd : o.guard = none) (s x : Operand) (t : TypeId)
    (ho : o.op = .call { callee := .builtin .append, args := #[s, x], argTypes := #[t, t] })
    (base : Nat) (e : TypeId) (z : Value) (size bytes : Nat) (ht : P.underlying t = some (.slice e)) (hi : (P.info? e).map (fun i => (i.zero, i.size, i.bytes)) = some (some z, size, bytes)) (hzs : z.cells.size = size) (hsz : 0 < size)
    (v : Value) (n : Nat) (xs : List Value) (hs : a.eval s = v) (hown : w.ownsRow base e size v n xs)
    (A : Option Addr) (m c : Nat) (news : List Value) (hx : a.eval x = .slice A m c) (hl : news.length = m * size) (hnews : Has w A news) (hA : A = none → c = 0) (h1 : ∀ u ∈ news, u.oneCell' = true)
    (h63 : n + m ≤ maxLen) (hbytes : (n + m) * bytes ≤ 140737488355328) (hbase : base ≤ w.heap.size)
    (h' : ∀ a' c' w', w'.ownsRow base e size (.slice a' (n + m) c') (n + m) (xs ++ news) → n + m ≤ c' → c' ≤ maxLen → (a' = none → c' = 0) → Below base w w' → w.grownBy w' v.ownBlock → wpList P ops Q rest (a.put o.dst (.slice a' (n + m) c')) w') : wpList P ops Q (o :: rest) a w := by
  obtain ⟨i, hi, hz, hz1, hz2⟩ := info_parts hi
  have h : ∀ v' w', w'.ownsRow base e size v' (n + m) (xs ++ news) → Below base w w' → w.grownBy w' v.ownBlock → wpList P ops Q rest (a.put o.dst v') w' := by
    intro v' w' g1 g2 g3
    obtain ⟨a', c', rfl, k1, k2, k3⟩ := owns_slice g1
    exact h' a' c' w' g1 k1 k2 k3 g2 g3
  cases A with
  | none =>
    have hn : news = [] := by
      rcases news with _ | ⟨u, us⟩
      · rfl
      · obtain ⟨p, hp, _⟩ := hnews 0 u (by simp)
        cases hp
    subst hn
    have hm : m = 0 := by
      rcases Nat.eq_zero_or_pos m with g | g
      · exact g
      · have := Nat.mul_pos g hsz; simp at hl; omega
    subst hm
    obtain rfl := hA rfl
    refine wpList_append_own_none hgd s x t ho base e i size ht hi v n xs hs hown hx ?_
    exact h v w (by simpa using hown) (Below.refl _ _) (World.grownBy.refl _ _)
  | some p =>
    refine wpList_append_own w hgd s x t ho base e i z size bytes ht hi hz hz1 hz2 hzs hsz v n xs hs hown p m c news hx hl ?_ h1 h63 hbytes hbase ?_
    · intro j u hu
      obtain ⟨q, hq, hc⟩ := hnews j u hu
      cases hq
      exact hc
    · intro v' w' g1 g2 _
      exact h v' w' g1 ((Below.refl base w).grown g2 hbase fun k hk => (hown.lt k hk).1) g2
end Go.Proofs.Ytbicnkopmamnpaa
end
section

/- Contracts of package view's functions: what each returns, or that it panics by the value that Fail throws; nothing that was there is changed. Conditions: a View's slice has no more bytes than its capacity. -/
namespace Go.Proofs.Ytbicnkopmamnpaa
open Go.RowKit

end Go.Proofs.Ytbicnkopmamnpaa
end
section

/- Contracts of package view's numbers: U8, U16, U32, I16, I32 of a View whose bytes are known. Conditions: as many bytes as the slice says, no more than its capacity. -/
namespace Go.Proofs.Ytbicnkopmamnpaa
open Go.RowKit

end Go.Proofs.Ytbicnkopmamnpaa
end
section

/- Contracts of view.Of, (View).Rows, (View).Bytes and slices.Clone of bytes. Conditions: as many bytes as the slice says, no more than its capacity; Bytes: fewer than 2^46. -/
namespace Go.Proofs.Ytbicnkopmamnpaa
open Go.RowKit

end Go.Proofs.Ytbicnkopmamnpaa
end
section

/- A statement whose order Go leaves open, walked once: operations that only read are taken in a chosen order, each shown to yield one value in every world of a class; the others come in the one order that is left to them. No condition of its own. -/
namespace Go.Proofs.Ytbicnkopmamnpaa
open Go.RowKit

/-- Does an operation only look: no new memory, no store, no call of a function? -/
def quietOp : Op → Bool
  | .move _ | .assign _ | .pick .. | .build .. | .load .. | .nilCheck _ | .binOp .. | .unOp .. | .makeInterface .. | .makeFunc .. | .slice .. | .fieldAddr .. | .field .. | .indexAddr .. | .index .. | .typeAssert .. | .extract .. | .convert .. => true
  | .call c => match c.callee with | .builtin .len => true | .builtin .cap => true | .builtin .min => true | .builtin .max => true | _ => false
  | _ => false

section
variable {P : Program} {ops : Array Oper} {Q : Exit → Act → World → Prop} {S : World → Prop}

theorem wpOp_skip {i : Nat} {o : Oper} {K : Act → World → Prop} {a : Act} {w : World} (ho : ops[i]? = some o) (hw : ¬ Region.wanted o (yielded ops a.tmps) = true) (h : K (a.put o.dst undef) w) : wpOp P ops Q i K a w := by
  unfold wpOp
  rw [ho]
  show if Region.wanted o (yielded ops a.tmps) = true then _ else _
  rw [if_neg hw]; exact h
theorem wpOp_run {i : Nat} {o : Oper} {K : Act → World → Prop} {a : Act} {w : World} (ho : ops[i]? = some o) (hw : Region.wanted o (yielded ops a.tmps) = true) (h : o.wp P a w K Q) : wpOp P ops Q i K a w := by
  unfold wpOp
  rw [ho]
  show if Region.wanted o (yielded ops a.tmps) = true then _ else _
  rw [if_pos hw]; exact .inl h

theorem bind_value {s : Sem Value} {w w' : World} {n : Next} (h : (do let x ← s; pure (Next.value x) : Sem Next).run P w = .ok n w') : ∃ v, n = .value v := by
  rw [Sem.run_bind] at h
  cases hr : s.run P w with
  | ok v w1 =>
    rw [hr] at h
    simp only [Result.andThen, Sem.run_pure, Result.ok.injEq] at h
    exact ⟨v, h.1.symm⟩
  | halt x w1 => rw [hr] at h; cases h
/-- What only looks yields a value. -/
theorem quiet_next {o : Oper} {ρ : Operand → Value} {w w' : World} {n : Next} (hq : quietOp o.op = true) (h : (execOp ρ o).run P w = .ok n w') : ∃ v, n = .value v := by
  obtain ⟨d, op, ty, ps, af, gd⟩ := o
  cases op <;> simp only [quietOp, Bool.false_eq_true] at hq
  case call c =>
    obtain ⟨ce, args, at'⟩ := c
    cases ce <;> simp only [Bool.false_eq_true] at hq
    rename_i b
    cases b <;> simp only [Bool.false_eq_true] at hq
    all_goals
      simp only [execOp, resolve, Sem.run_bind, Sem.run_pure, Result.andThen_ok, invoke, builtin] at h
      exact bind_value (by simpa only [Sem.run_bind, Sem.run_pure] using h)
  case nilCheck x =>
    simp only [execOp] at h
    split at h
    · simp [runtimePanic, goPanic, Sem.run_bind] at h
    · simp [runtimePanic, goPanic, Sem.run_bind] at h
    · simp [runtimePanic, goPanic, Sem.run_bind] at h
    · split at h
      · simp [runtimePanic, goPanic, Sem.run_bind] at h
      · rw [Sem.run_bind] at h
        cases hr : (program : Sem Program).run P w with
        | ok p w1 =>
          rw [hr] at h
          simp only [Result.andThen] at h
          rw [Sem.run_bind] at h
          cases hr2 : Sem.run P (nilAhead (p.types.size + Made.depth) _ _ _) w1 with
          | ok x w2 =>
            rw [hr2] at h
            simp only [Result.andThen] at h
            split at h
            · simp [unsupported, Sem.run_bind] at h
            · simp only [Sem.run_pure, Result.ok.injEq] at h; exact ⟨_, h.1.symm⟩
          | halt x w2 => rw [hr2] at h; cases h
        | halt x w1 => rw [hr] at h; cases h
      · simp only [Sem.run_pure, Result.ok.injEq] at h; exact ⟨_, h.1.symm⟩
    · simp only [Sem.run_pure, Result.ok.injEq] at h; exact ⟨_, h.1.symm⟩
  case move x => simp only [execOp, Sem.run_pure, Result.ok.injEq] at h; exact ⟨_, h.1.symm⟩
  case assign x => simp only [execOp, Sem.run_pure, Result.ok.injEq] at h; exact ⟨_, h.1.symm⟩
  case pick c a b =>
    simp only [execOp] at h
    rw [Sem.run_bind] at h
    cases hr : (asBool (ρ c)).run P w with
    | ok v w1 =>
      rw [hr] at h
      simp only [Result.andThen, Sem.run_pure, Result.ok.injEq] at h
      exact ⟨_, h.1.symm⟩
    | halt x w1 => rw [hr] at h; cases h
  all_goals exact bind_value h
theorem quiet_value {o : Oper} {a : Act} {w : World} {v : Value} (hq : quietOp o.op = true) (h : o.quietAt P a S w v) : (execOp a.eval o).run P w = .ok (.value v) w := by
  unfold Oper.quietAt at h
  cases hr : (execOp a.eval o).run P w with
  | ok n w1 =>
    obtain ⟨u, rfl⟩ := quiet_next hq hr
    rw [hr] at h
    simp only [Oper.quietUpon] at h
    rw [h.1, h.2]
  | halt x w1 => rw [hr] at h; simp only [Oper.quietUpon] at h
end

/-! The class of worlds: as at the region's beginning, but for new blocks and the blocks of a list. -/
structure Same (w : World) (X : List Nat) (w' : World) : Prop where
  size : w.heap.size ≤ w'.heap.size
  block : ∀ k, k < w.heap.size → k ∉ X → w'.heap[k]? = w.heap[k]?
structure Wld (w : World) (X : List Nat) where
  val : World
  is : Same w X val
theorem same_below {w w' : World} {X : List Nat} (h : Below w.heap.size w w') : Same w X w' := ⟨h.size, fun k hk _ => h.block k hk⟩
instance (w : World) (X : List Nat) : Nonempty (Wld w X) := ⟨⟨w, same_below (brefl w)⟩⟩
theorem same_then {w W w1 : World} {X : List Nat} (h : Same w X W) (hb : Below W.heap.size W w1) : Same w X w1 :=
  ⟨Nat.le_trans h.size hb.size, fun k hk hX => (hb.block k (Nat.lt_of_lt_of_le hk h.size)).trans (h.block k hk hX)⟩
theorem same_set {w W : World} {X : List Nat} (h : Same w X W) {p : Addr} (hp : p.block ∈ X ∨ w.heap.size ≤ p.block) (v : Value) : Same w X (W.setCell p v) :=
  ⟨by simpa using h.size, fun k hk hX => by
    rw [Below.heap_setCell _ _ _ _ (by rintro rfl; rcases hp with hp | hp; exact hX hp; omega)]; exact h.block k hk hX⟩
theorem same_alloc {w W : World} {X : List Nat} (h : Same w X W) (o : Obj) : Same w X (W.alloc o) := same_then h (balloc (brefl _) o)
theorem wld_start (w : World) (X : List Nat) : ∃ p : Wld w X, w.drew = p.val := ⟨⟨w.drew, same_below (bdrew1 (brefl w))⟩, rfl⟩
theorem wld_of {w W : World} {X : List Nat} (h : Same w X W) : ∃ p : Wld w X, W = p.val := ⟨⟨W, h⟩, rfl⟩
theorem wldC {w : World} (p : Wld w []) (b o : Nat) : p.val.cell? ⟨b, o, none⟩ = if b < w.heap.size then w.cell? ⟨b, o, none⟩ else opqC p.val b o := by
  split
  · rename_i h; exact World.cell?_of_block (p.is.block b h (by simp))
  · rfl
end Go.Proofs.Ytbicnkopmamnpaa
end
section

/- As Ord, where two operations that do more than look may come next, in either order: both are walked. And classes of worlds in which some cells hold known values. No condition of its own. -/
namespace Go.Proofs.Ytbicnkopmamnpaa
open Go.RowKit

inductive Tree where
  | nil
  | step (i : Nat) (r : Tree)
  | two (i : Nat) (r : Tree) (j : Nat) (s : Tree)
  | narrow (r : Tree)
def Tree.deep : Tree → Nat
  | .nil => 0
  | .step _ r => r.deep + 1
  | .two _ r _ _ => r.deep + 1
  | .narrow r => r.deep

section
variable {P : Program} {ops : Array Oper} {Q : Exit → Act → World → Prop} {S : World → Prop}

def wpTree (P : Program) (ops : Array Oper) (Q : Exit → Act → World → Prop) : (World → Prop) → Tree → Act → World → Prop
  | _, .nil, a, w => Q .normal a w
  | S, .step i r, a, w => match ops[i]? with
    | none => False
    | some o =>
      if Region.wanted o (yielded ops a.tmps) = true then
        (if quietOp o.op = true then ∃ v, (∀ w', S w' → (execOp a.eval o).run P w' = .ok (.value v) w') ∧ wpTree P ops Q S r (a.put o.dst v) w
         else o.wp P a w (fun a' w' => S w' ∧ wpTree P ops Q S r a' w') Q)
      else wpTree P ops Q S r (a.put o.dst undef) w
  | S, .two i r j s, a, w => match ops[i]?, ops[j]? with
    | some o, some p =>
      Region.wanted o (yielded ops a.tmps) = true ∧ Region.wanted p (yielded ops a.tmps) = true ∧
        o.wp P a w (fun a' w' => S w' ∧ wpTree P ops Q S r a' w') Q ∧ p.wp P a w (fun a' w' => S w' ∧ wpTree P ops Q S s a' w') Q
    | _, _ => False
  | S, .narrow r, a, w => ∃ S' : World → Prop, (∀ w, S' w → S w) ∧ S' w ∧ wpTree P ops Q S' r a w

def treeB (ops : Array Oper) : Tree → Array Bool → Bool
  | .nil, listed => (Region.ready .any ops listed).isEmpty
  | .step i r, listed => (match ops[i]? with
    | some o => if quietOp o.op then (Region.ready .any ops listed).contains i && Region.free .any ops listed i else decide (Region.ready .any ops listed = [i])
    | none => false) && treeB ops r (listed.setIfInBounds i true)
  | .narrow r, listed => treeB ops r listed
  | .two i r j s, listed => decide (Region.ready .any ops listed = [i, j]) && decide (r.deep = s.deep) && treeB ops r (listed.setIfInBounds i true) && treeB ops s (listed.setIfInBounds j true)

theorem wpAnyH_class {md : Region.Mode} {S S' : World → Prop} (hSS : ∀ w, S' w → S w) : ∀ (n : Nat) (listed : Array Bool) (a : Act) (w : World), wpAnyH P md ops Q S' n listed a w → wpAnyH P md ops Q S n listed a w
  | 0, _, _, _, h => h
  | n + 1, _, _, _, h => ⟨h.1, fun i hi => wpOp_mono (fun a' w' g => ⟨hSS _ g.1, wpAnyH_class hSS n _ a' w' g.2⟩) (h.2 i hi)⟩
theorem wpAnyH_of_tree (hs : Region.noSelect ops = true) (hQ : ∀ (c : List PanicEntry) (a : Act) (d : Option Tmp) (v : Value) (w : World), Q (.panic c) (a.put d v) w → Q (.panic c) a w) :
    ∀ (t : Tree) (S : World → Prop) (listed : Array Bool) (a : Act) (w : World), treeB ops t listed = true → S w → wpTree P ops Q S t a w → wpAnyH P .any ops Q S t.deep listed a w
  | .nil, S, listed, a, w, hB, _, h => ⟨by simpa [treeB] using hB, h⟩
  | .narrow r, S, listed, a, w, hB, hS, h => by
    simp only [wpTree] at h
    obtain ⟨S', h1, h2, h3⟩ := h
    exact wpAnyH_class h1 _ _ _ _ (wpAnyH_of_tree hs hQ r S' listed a w (by simpa [treeB] using hB) h2 h3)
  | .step i r, S, listed, a, w, hB, hS, h => by
    simp only [treeB, Bool.and_eq_true] at hB
    obtain ⟨hB1, hB2⟩ := hB
    simp only [wpTree] at h
    cases ho : ops[i]? with
    | none => rw [ho] at h; exact h.elim
    | some o =>
      rw [ho] at h hB1
      simp only at h hB1
      by_cases hq : quietOp o.op = true
      · rw [if_pos hq] at hB1
        simp only [Bool.and_eq_true] at hB1
        have hready : i ∈ Region.ready .any ops listed := by simpa using hB1.1
        by_cases hw : Region.wanted o (yielded ops a.tmps) = true
        · rw [if_pos hw, if_pos hq] at h
          obtain ⟨v, hv, h'⟩ := h
          exact wpAnyH_first ho (Region.noSelect_spec hs) (fun c a w => hQ c a _ _ w) r.deep listed a w (Region.free_spec ho hB1.2) hready (.inl ⟨hw, hv⟩) hS (wpAnyH_of_tree hs hQ r S _ _ _ hB2 hS h')
        · rw [if_neg hw] at h
          exact wpAnyH_first ho (Region.noSelect_spec hs) (fun c a w => hQ c a _ _ w) r.deep listed a w (Region.free_spec ho hB1.2) hready (.inr ⟨by simpa using hw, rfl⟩) hS (wpAnyH_of_tree hs hQ r S _ _ _ hB2 hS h)
      · rw [if_neg hq] at hB1
        have hready : Region.ready .any ops listed = [i] := by simpa using hB1
        refine wpAnyH_all hready (by simp) fun j hj => ?_
        obtain rfl : j = i := by simpa using hj
        by_cases hw : Region.wanted o (yielded ops a.tmps) = true
        · rw [if_pos hw, if_neg hq] at h
          refine wpOp_run ho hw ?_
          exact Oper.wp_mono (fun a' w' g => ⟨g.1, wpAnyH_of_tree hs hQ r S _ _ _ hB2 g.1 g.2⟩) h
        · rw [if_neg hw] at h
          exact wpOp_skip ho hw ⟨hS, wpAnyH_of_tree hs hQ r S _ _ _ hB2 hS h⟩
  | .two i r j s, S, listed, a, w, hB, hS, h => by
    simp only [treeB, Bool.and_eq_true, decide_eq_true_eq] at hB
    obtain ⟨⟨⟨hready, hd⟩, hB1⟩, hB2⟩ := hB
    simp only [wpTree] at h
    cases ho : ops[i]? with
    | none => rw [ho] at h; exact h.elim
    | some o =>
      cases hp : ops[j]? with
      | none => rw [ho, hp] at h; exact h.elim
      | some p =>
        rw [ho, hp] at h
        obtain ⟨hw1, hw2, h1, h2⟩ := h
        refine wpAnyH_all hready (by simp) fun k hk => ?_
        have hk' : k = i ∨ k = j := by simpa using hk
        rcases hk' with rfl | rfl
        · refine wpOp_run ho hw1 ?_
          exact Oper.wp_mono (fun a' w' g => ⟨g.1, wpAnyH_of_tree hs hQ r S _ _ _ hB1 g.1 g.2⟩) h1
        · refine wpOp_run hp hw2 ?_
          have := Oper.wp_mono (fun a' w' g => (⟨g.1, wpAnyH_of_tree hs hQ s S _ _ _ hB2 g.1 g.2⟩ : S w' ∧ _)) h2
          rw [← hd] at this
          exact this

theorem wp_region_tree {id : Nat} {a : Act} {w : World} {l : List Oper} (t : Tree) (hm : P.follows .mixedOrders = true) (hs : Region.noSelect l.toArray = true) (hlen : decide (l.toArray.size = t.deep) = true)
    (hB : treeB l.toArray t (Array.replicate l.toArray.size false) = true)
    (hQ : ∀ (c : List PanicEntry) (a : Act) (d : Option Tmp) (v : Value) (w : World), Q (.panic c) (a.put d v) w → Q (.panic c) a w) (S : World → Prop) (hS : S w.drew)
    (h : wpTree P l.toArray Q S t a w.drew) : (Code.region id l.toArray true).wp P Q a w := by
  refine wp_region_held (S := S) hm ?_
  have := wpAnyH_of_tree hs hQ t S _ a w.drew hB hS h
  rw [of_decide_eq_true hlen]
  rw [of_decide_eq_true hlen] at this
  exact this

/-! The steps of a walk. -/
theorem tree_nil {a : Act} {w : World} (h : Q .normal a w) : wpTree P ops Q S .nil a w := h
theorem tree_quiet {i : Nat} {r : Tree} {a : Act} {w : World} {o : Oper} (ho : ops[i]? = some o) (hq : quietOp o.op = true) (hw : Region.wanted o (yielded ops a.tmps) = true)
    (h : ∀ K : Act → Prop, (∀ a, wpTree P ops Q S r a w → K a) → o.quiet P a S K) : wpTree P ops Q S (.step i r) a w := by
  obtain ⟨v, h1, h2⟩ := h _ (fun _ h => h)
  simp only [wpTree, ho]
  rw [if_pos hw, if_pos hq]
  exact ⟨v, fun w' hw' => quiet_value hq (h1 w' hw'), h2⟩
theorem same_realloc {w : World} {X : List Nat} {o o' : Obj} (h : w.heap.size ∈ X) : Same (w.alloc o) X (w.alloc o') :=
  ⟨by simp, fun k hk hX => by
    show (w.heap.push o')[k]? = (w.heap.push o)[k]?
    rw [Array.getElem?_push, Array.getElem?_push]
    split
    · rename_i he; subst he; exact absurd h hX
    · rfl⟩
end

attribute [irreducible] wpTree
theorem same_drew {w W : World} {X : List Nat} (h : Same w X W) : Same w X W.drew := same_then h (bdrew1 (brefl W))
/-! A class of worlds: below a block's number all is as it was. -/
structure BelW (B : Nat) (w : World) where
  val : World
  is : Below B w val
instance (B : Nat) (w : World) : Nonempty (BelW B w) := ⟨⟨w, Below.refl _ _⟩⟩
end Go.Proofs.Ytbicnkopmamnpaa
end
section

/- The contracts of view's calls with their numbers as the text spells them; make; small lemmas. Conditions: as in Nums and Own. -/
namespace Go.Proofs.Ytbicnkopmamnpaa
open Go.RowKit

/-- 'make' of so many elements. -/
theorem wpMake {P : Program} (w : World) {ops : Array Oper} {rest : List Oper} {o : Oper} {a : Act} {Q : Exit → Act → World → Prop}
    (hg : o.guard = none) (l c : Operand) (t : TypeId) (hop : o.op = Op.makeSlice t l c)
    (base : Nat) (e : TypeId) (z : Value) (size bytes : Nat) (h1 : P.underlying t = some (.slice e)) (hi : (P.info? e).map (fun i => (i.zero, i.size, i.bytes)) = some (some z, size, bytes))
    (n : Nat) (hl : a.eval l = .int .i64 (n : Int)) (hc : a.eval c = .int .i64 (n : Int)) (b2 : bytes * n ≤ 281474976710656) (b3 : n ≤ maxLen) (b4 : base ≤ w.heap.size)
    (hK : ∀ w', w'.ownsRow base e size (.slice (some ⟨w.heap.size, 0, none⟩) n n) n (madeCells z.cells (n * size)).toList → Below w.heap.size w w' → wpList P ops Q rest (a.put o.dst (.slice (some ⟨w.heap.size, 0, none⟩) n n)) w') :
    wpList P ops Q (o :: rest) a w := by
  obtain ⟨i, hi', hz, hz1, hz2⟩ := info_parts hi
  subst hz2
  exact wpList_make_full w hg l c t hop base e i z size h1 hi' hz hz1 .i64 .i64 _ _ n hl hc rfl rfl b2 b3 b4 fun w' g1 g2 => hK w' g1 ((Below.refl _ w).grown g2 (Nat.le_refl _) (fun k hk => by cases hk))
theorem has_alloc (w : World) (cs : Array Value) (t : TypeId) : Has (w.alloc (.cells cs t)) (some ⟨w.heap.size, 0, none⟩) cs.toList := by
  intro j u hu
  refine ⟨_, rfl, ?_⟩
  have e : (⟨w.heap.size, 0, none⟩ : Addr).add j = ⟨w.heap.size, j, none⟩ := by simp only [Addr.add]; split <;> simp_all
  rw [e, allocC, if_pos rfl]
  simpa using hu
end Go.Proofs.Ytbicnkopmamnpaa
end
section

/- The frame of every law's proof: where the Go text returns true and leaves all old blocks, the law's row holds. No condition beside the row's. -/
namespace Go.Proofs.Ytbicnkopmamnpaa
open Go.ChangeShapes Go.WideShapes Go.ChangeAt Go.RowKit
open Go.ChangeMaps (open_string shut_string)

theorem ownKnob_none : ownKnob Try.prog.godebug = none := by kernel_rfl
theorem laid_out : laidOutB Try.prog = true := by kernel_rfl

section
variable {H : Type} {enc : TypeId × Value → H}
theorem trod_length {P : Program} {w : World} {b : Nat} {sp : Nat → Bool} {hd : Bool} : ∀ {ts : List TypeId} {vs : List Value} {ds : List (DataW H)} {ps : List MemPlace}, DataW.TrodAll enc P w b sp hd ts vs ds ps → ds.length = ts.length
  | [], vs, ds, ps, h => by obtain ⟨_, rfl, _⟩ := trodAll_nil h; rfl
  | t :: ts, vs, ds, ps, h => by
    obtain ⟨v, vs', d, ds', p, q, rfl, rfl, rfl, _, h'⟩ := trodAll_cons h
    simp [trod_length h']
theorem trod_later {W W' : World} (hb : Below W.heap.size W W') : ∀ {ts : List TypeId} {vs : List Value} {ds : List (DataW H)} {ps : List MemPlace}, (∀ t ∈ ts, Try.prog.readableRec t = true ∧ t < Try.prog.types.size) →
    DataW.TrodAll enc Try.prog W 0 (fun _ => true) true ts vs ds ps → DataW.TrodAll enc Try.prog W' 0 (fun b => decide (b < W.heap.size)) true ts vs ds ps
  | [], vs, ds, ps, _, h => by obtain ⟨rfl, rfl, rfl⟩ := trodAll_nil h; exact trodAll_mk0
  | t :: ts, vs, ds, ps, hr, h => by
    obtain ⟨v, vs', d, ds', p, q, rfl, rfl, rfl, h0, h'⟩ := trodAll_cons h
    have k0 := h0
    have lt0 : ∀ x ∈ p, x.block < W.heap.size := by obtain ⟨m, hm⟩ := k0; exact DataW.trod_lt m _ _ _ hm
    exact trodAll_cons_mk (Below.trod laid_out (hr t (by simp)).1 (hr t (by simp)).2 k0 hb lt0) (trod_later hb (fun t ht => hr t (by simp [ht])) h')

/-- What a law's walk must show: of all arguments that are read. -/
def Walks (H : Type) (enc : TypeId × Value → H) (F : FuncId) (ts : List TypeId) : Prop :=
  ∀ (W : World) (base : Nat) (args : Array Value) (ds : List (DataW H)) (p : List MemPlace),
    (∀ (j : Nat) t v, ts[j]? = some t → args[j]? = some v → Value.okWide Try.prog W .any base t v) →
    DataW.TrodAll enc Try.prog W 0 (fun _ => true) true ts args.toList ds p →
    (DataW.weightsEach Try.prog ts ds).all (· ≤ reachBytes) = true →
    Calls Try.prog F args W fun e w' => e = .returned (.bool true) ∧ Below W.heap.size W w'

set_option maxRecDepth 100000 in
theorem lift_law {os : Os} {F : FuncId} {fn : Func} {s : ChangeSpec} {conds : List PathCond} (started : os.Started) (noInit : Try.checked.prog.inits.idxOf? F = none) (hfn : Try.checked.prog.funcs[F]? = some fn)
    (witness : ∃ (w : World) (tape : Tape) (i : Input), w.os = os ∧ (w.forCall tape i).Shaped Try.checked.prog ∧ i.vars = [] ∧ Input.okWide Try.checked.prog (w.forCall tape i) .any w.heap.size F i ∧
      s.pre6 enc Try.checked.prog fn conds false (w.forCall tape i).memory i.args ∧ ({} : Assume).holds Try.checked.prog (lone (Frame.enter Try.checked.prog F i.args .normal) [] (w.forCall tape i)))
    (hres : fn.resultTypes = #[4]) (hvars : s.vars = []) (hspec : ∀ ds : List (DataW H), ds.length = fn.params.size → s.fn H (ds ++ []) = { results := [.lit (.bool true)], args := ds })
    (hrd : ∀ t ∈ fn.params.toList, Try.prog.readableRec t = true ∧ t < Try.prog.types.size) (walk : Walks H enc F fn.params.toList) :
    ReturnsInHanded {} Try.checked os F .any (s.pre6 enc Try.checked.prog fn conds false) (s.post enc Try.checked.prog fn false true false false) := by
  refine returnsInHanded_of_change_sized (C := Try.checked) ownKnob_none started noInit hfn witness ?_
  intro W base args ds gs before hval hW hcnd hsz _
  have hW' := hW
  obtain ⟨p, q, hA, hV, rfl, hfz, hnd⟩ := hW
  rw [hvars] at hV
  obtain ⟨rfl, rfl⟩ := trodVars_none hV
  have hv : s.plain.varTypes Try.checked.prog = [] := by
    simp [ChangeSpec.plain, DataSpec.varTypes, hvars]
  rw [hv, List.append_nil, List.append_nil] at hsz
  have hlen : ds.length = fn.params.size := by simpa using trod_length hA
  have hval' : ∀ (j : Nat) t v, fn.params.toList[j]? = some t → args[j]? = some v → Value.okWide Try.prog W .any base t v := fun j t v ht hv => hval j t v (by rw [Array.getElem?_toList] at ht; exact ht) hv
  have hA' : DataW.TrodAll enc Try.prog W 0 (fun _ => true) true fn.params.toList args.toList ds p := hA
  have hsz' : (DataW.weightsEach Try.prog fn.params.toList ds).all (· ≤ reachBytes) = true := hsz
  refine (walk W base args ds p hval' hA' hsz').mono fun e W' ⟨he, bel⟩ => ?_
  subst he
  refine ⟨_, rfl, ds, [], _, [], p, [], hW', ?_, ?_, ?_, bel.frame _, fun h => by cases h⟩
  · rw [hspec ds hlen, hres]
    exact trodAll_mk1 (shut_bool Try.underlying4 _)
  · rw [hspec ds hlen]
    exact trod_later bel hrd hA
  · rw [hspec ds hlen, hvars]
    rfl

theorem flatten_get {s : Nat} : ∀ (us : List (List Value)) (j : Nat) (u : Value), (∀ x ∈ us, x.length = s) → us.flatten[j]? = some u → ∃ i k x, us[i]? = some x ∧ x[k]? = some u ∧ j = i * s + k ∧ k < s
  | [], j, u, _, h => by simp at h
  | x :: us, j, u, hs, h => by
    have hx := hs x (by simp)
    rw [List.flatten_cons, List.getElem?_append] at h
    split at h
    · rename_i hj
      exact ⟨0, j, x, rfl, h, by omega, by omega⟩
    · rename_i hj
      obtain ⟨i, k, y, h1, h2, h3, h4⟩ := flatten_get us (j - x.length) u (fun y hy => hs y (by simp [hy])) h
      refine ⟨i + 1, k, y, by simpa using h1, h2, ?_, h4⟩
      rw [Nat.succ_mul]; omega
/-- What an argument that is a slice is: rows of cells, one an element, each read as its type says. -/
theorem open_rows {P : Program} {W : World} {base : Nat} {t e : TypeId} {v : Value} {d : DataW H} {p : List MemPlace} (ht : P.underlying t = some (.slice e))
    (hv : Value.okWide P W .any base t v) (h : DataW.Trod enc P W 0 (fun _ => true) true t v d p) :
    ∃ (a : Option Addr) (n c : Nat) (us : List (List Value)), v = .slice a n c ∧ us.length = n ∧ n ≤ c ∧ c ≤ maxLen ∧ (a = none → c = 0) ∧ Has W a us.flatten ∧ ∀ x ∈ us, x.length = P.cellsOf e ∧ ∃ m y, DataW.trod enc P W 0 (fun _ => true) true m e x = some y := by
  obtain ⟨a, n, c, rfl⟩ := okWide_slice ht hv
  obtain ⟨fuel, hf⟩ := h
  rcases Deep.open_slice ht hf with ⟨hcs, _⟩ | ⟨x, l, c', m, k, D, Pl, hcs, _, hl, hm, hmm, _, hi⟩
  · simp [Value.cells] at hcs
    obtain ⟨rfl, rfl, rfl⟩ := hcs
    exact ⟨none, 0, 0, [], rfl, rfl, Nat.le_refl _, Nat.zero_le _, fun _ => rfl, Has.nil _ _, fun x hx => by cases hx⟩
  · simp [Value.cells] at hcs
    obtain ⟨rfl, rfl, rfl⟩ := hcs
    simp only [if_true] at hmm
    subst hmm
    have hlen : ∀ i (h : i < n), (hi i (by omega)).choose.length = P.cellsOf e := fun i h => (World.cells?_some (hi i (by omega)).choose_spec.1).2.1
    refine ⟨some x, n, _, (List.range n).attach.map fun i => (hi i.1 (by have := List.mem_range.1 i.2; omega)).choose, rfl, by simp, hl, hm, (fun h => by cases h), ?_, ?_⟩
    · intro j u hu
      obtain ⟨i, q, y, h1, h2, rfl, hq⟩ := flatten_get (s := P.cellsOf e) _ _ _ (by
        intro y hy
        simp only [List.mem_map] at hy
        obtain ⟨i, _, rfl⟩ := hy
        exact hlen i.1 (List.mem_range.1 i.2)) hu
      refine ⟨x, rfl, ?_⟩
      have hin : i < n := by
        rcases Nat.lt_or_ge i n with g | g
        · exact g
        · rw [List.getElem?_eq_none (by simpa using g)] at h1; cases h1
      have hy : y = (hi i (by omega)).choose := by
        simp only [List.getElem?_map, List.getElem?_attach] at h1
        simp [List.getElem?_range hin] at h1
        exact h1.symm
      have hs := World.cells?_some (hi i (by omega)).choose_spec.1
      have := hs.2.2 q hq
      rw [Deep.add_add] at this
      rw [this, ← hy, h2]
    · intro y hy
      simp only [List.mem_map] at hy
      obtain ⟨i, _, rfl⟩ := hy
      exact ⟨hlen i.1 (List.mem_range.1 i.2), _, _, (hi i.1 (by have := List.mem_range.1 i.2; omega)).choose_spec.2⟩

/-- What an argument that is a number is. -/
theorem open_int {P : Program} {W : World} {base : Nat} {t : TypeId} {k : IntKind} {v : Value} {d : DataW H} {p : List MemPlace} (ht : P.underlying t = some (.int k))
    (hv : Value.okWide P W .any base t v) (h : DataW.Trod enc P W 0 (fun _ => true) true t v d p) : ∃ n : Int, v = .int k n ∧ (Lit.int k n).wf = true := by
  obtain ⟨n, rfl⟩ := okWide_int ht hv
  obtain ⟨fuel, hf⟩ := h
  obtain ⟨z, hz, _, hw⟩ := DataW.trod_int ht hf
  simp [Value.cells] at hz
  subst hz
  exact ⟨_, rfl, hw⟩
/-- What an argument that is a slice of integers is. -/
theorem open_nums {P : Program} {W : World} {base : Nat} {t e : TypeId} {k : IntKind} {v : Value} {d : DataW H} {p : List MemPlace} (ht : P.underlying t = some (.slice e)) (he : P.underlying e = some (.int k))
    (hv : Value.okWide P W .any base t v) (h : DataW.Trod enc P W 0 (fun _ => true) true t v d p) :
    ∃ (a : Option Addr) (n c : Nat) (zs : List Int), v = .slice a n c ∧ zs.length = n ∧ n ≤ c ∧ c ≤ maxLen ∧ (a = none → c = 0) ∧ Has W a (zs.map (Value.int k)) ∧ ∀ z ∈ zs, (Lit.int k z).wf = true := by
  obtain ⟨a, n, c, us, rfl, hl, hn, hc, hA, hh, hx⟩ := open_rows ht hv h
  have key : ∀ us : List (List Value), (∀ x ∈ us, ∃ m y, DataW.trod enc P W 0 (fun _ => true) true m e x = some y) → ∃ zs : List Int, zs.length = us.length ∧ us.flatten = zs.map (Value.int k) ∧ ∀ z ∈ zs, (Lit.int k z).wf = true := by
    intro us
    induction us with
    | nil => exact fun _ => ⟨[], rfl, rfl, fun z hz => by cases hz⟩
    | cons x us ih =>
      intro h
      obtain ⟨zs, h1, h2, h3⟩ := ih (fun y hy => h y (by simp [hy]))
      obtain ⟨m, y, hy⟩ := h x (by simp)
      obtain ⟨z, rfl, _, hw⟩ := DataW.trod_int he hy
      exact ⟨z :: zs, by simp [h1], by simp [h2], fun z' hz' => by
        rcases List.mem_cons.1 hz' with rfl | hz'
        · exact hw
        · exact h3 z' hz'⟩
  obtain ⟨zs, h1, h2, h3⟩ := key us (fun x hx' => (hx x hx').2)
  exact ⟨a, n, c, zs, rfl, h1.trans hl, hn, hc, hA, h2 ▸ hh, h3⟩
end
theorem wf_i64 {n : Int} (h : (Lit.int .i64 n).wf = true) : -9223372036854775808 ≤ n ∧ n ≤ 9223372036854775807 := by
  simp [Lit.wf, IntKind.min, IntKind.max, IntKind.signed, IntKind.bits] at h
  omega
end Go.Proofs.Ytbicnkopmamnpaa
end
