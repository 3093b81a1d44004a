/- Joined from: KeptE HMem PutF HBytes AppA. -/
import Derived.Test.YthehcbbdkiomnaaJ03
import Derived.Laws.OwnMore
import Derived.ArgAppend
import Derived.Test.YthehcbbdkiomnaaJ01
section

/- Classes of worlds: all blocks that hold no elements of one type are as they were; all blocks that aren't a call's own. A cell of an own row. No condition of its own. -/
namespace Go.Proofs.Ythehcbbdkiomnaa
open Go.RowKit

def KeptE (e : TypeId) (w w' : World) : Prop := w.heap.size ≤ w'.heap.size ∧ ∀ (g : Nat) (cs : Array Value) (t : Nat) (fz : Nat × Nat), w.heap[g]? = some (.cells cs t fz) → t ≠ e → w'.heap[g]? = w.heap[g]?
theorem KeptE.refl (e : TypeId) (w : World) : KeptE e w w := ⟨Nat.le_refl _, fun _ _ _ _ _ _ => rfl⟩
theorem KeptE.trans {e : TypeId} {a b c : World} (h : KeptE e a b) (k : KeptE e b c) : KeptE e a c := ⟨Nat.le_trans h.1 k.1, fun g cs t fz hg ht => (k.2 g cs t fz ((h.2 g cs t fz hg ht).trans hg) ht).trans (h.2 g cs t fz hg ht)⟩
theorem KeptE.below {e : TypeId} {w w' : World} (h : Below w.heap.size w w') : KeptE e w w' := ⟨h.size, fun g _ _ _ hg _ => h.block g (Array.getElem?_eq_some_iff.1 hg).1⟩
/-- A row of the call's own isn't a block of another kind. -/
theorem own_neE {w : World} {base size n : Nat} {e : TypeId} {v : Value} {xs : List Value} (h : w.ownsRow base e size v n xs) {g : Nat} {cs : Array Value} {t : Nat} {fz : Nat × Nat} (hg : w.heap[g]? = some (.cells cs t fz)) (ht : t ≠ e) : some g ≠ v.ownBlock := by
  rcases h.2 with ⟨rfl, _⟩ | ⟨g', cap, cur, rfl, _, hh, _⟩
  · simp [Value.ownBlock]
  · simp only [Value.ownBlock, ne_eq, Option.some.injEq]
    rintro rfl
    rw [hg] at hh
    injection hh with hh
    injection hh with _ h2 _
    exact ht h2
theorem KeptE.grown {e : TypeId} {w w' : World} {base size n : Nat} {v : Value} {xs : List Value} (h : w.ownsRow base e size v n xs) (hg : w.grownBy w' v.ownBlock) : KeptE e w w' :=
  ⟨hg.size, fun g _ _ _ h1 ht => hg.block g (Array.getElem?_eq_some_iff.1 h1).1 (own_neE h h1 ht)⟩
structure KepE (e : TypeId) (W : World) where
  val : World
  is : KeptE e W val
instance (e : TypeId) (W : World) : Nonempty (KepE e W) := ⟨⟨W, KeptE.refl e W⟩⟩
/-- 'append' onto a slice of the call's own, as one operation. -/
theorem wpAppO {P : Program} {w : World} {o : Oper} {a : Act} {K : Act → World → Prop} {Q : Exit → Act → World → Prop} (s x : Operand) (t : TypeId)
    (ho : o.op = .call { callee := .builtin .append, args := #[s, x], argTypes := #[t, t] })
    (base : Nat) (e : TypeId) (z : Value) (size bytes : Nat) (ht : P.underlying t = some (.slice e)) (hi : (P.info? e).map (fun i => (i.zero, i.size, i.bytes)) = some (some z, size, bytes)) (hzs : z.cells.size = size) (hsz : 0 < size)
    (v : Value) (n : Nat) (xs : List Value) (hs : a.eval s = v) (hown : w.ownsRow base e size v n xs)
    (p : Addr) (m c : Nat) (news : List Value) (hx : a.eval x = .slice (some p) m c) (hl : news.length = m * size) (hnews : Has w (some p) news) (h1 : ∀ u ∈ news, u.oneCell' = true)
    (h63 : n + m ≤ maxLen) (hbytes : (n + m) * bytes ≤ 140737488355328) (hbase : base ≤ w.heap.size)
    (h' : ∀ a' c' w', w'.ownsRow base e size (.slice a' (n + m) c') (n + m) (xs ++ news) → n + m ≤ c' → c' ≤ maxLen → (a' = none → c' = 0) → Below base w w' → w.grownBy w' v.ownBlock → K (a.put o.dst (.slice a' (n + m) c')) w') : o.wp P a w K Q := by
  obtain ⟨i, hi, hz, hz1, hz2⟩ := info_parts hi
  refine wp_append_own w s x t ho base e i z size bytes ht hi hz hz1 hz2 hzs hsz v n xs hs hown p m c news hx hl (fun j u hu => ?_) h1 h63 hbytes hbase fun v' w' g1 g2 _ => ?_
  · obtain ⟨q, hq, hc⟩ := hnews j u hu
    cases hq
    exact hc
  · obtain ⟨a', c', rfl, k1, k2, k3⟩ := owns_slice g1
    exact h' a' c' w' g1 k1 k2 k3 ((Below.refl base w).grown g2 hbase fun k hk => (hown.lt k hk).1) g2
theorem heap_set_new {w0 w1 : World} {x v : Value} {t : TypeId} (h : Below (w0.alloc (.cells #[x] t)).heap.size (w0.alloc (.cells #[x] t)) w1) : (w1.setCell ⟨w0.heap.size, 0, none⟩ v).heap[w0.heap.size]? = some (.cells #[v] t (0, 0)) := by
  have h1 : w1.heap[w0.heap.size]? = some (.cells #[x] t (0, 0)) := (h.block w0.heap.size (by simp)).trans (by rw [heap_push, if_pos rfl])
  simp [World.setCell, Array.getElem?_modify, h1]
theorem heap_set_newd {w0 w1 : World} {x v : Value} {t : TypeId} (h : Below (w0.alloc (.cells #[x] t)).drew.heap.size (w0.alloc (.cells #[x] t)).drew w1) : (w1.setCell ⟨w0.heap.size, 0, none⟩ v).heap[w0.heap.size]? = some (.cells #[v] t (0, 0)) :=
  heap_set_new ((Below.refl _ _).drew.trans h)
theorem set_heap_at {w : World} {g o : Nat} {cs : Array Value} {t : TypeId} {fz : Nat × Nat} (v : Value) (h : w.heap[g]? = some (.cells cs t fz)) : (w.setCell ⟨g, o, none⟩ v).heap[g]? = some (.cells (cs.setIfInBounds o v) t fz) := by
  simp [World.setCell, Array.getElem?_modify, h]
theorem set_heap_other {w : World} {g k : Nat} {o : Nat} (v : Value) (h : k ≠ g) : (w.setCell ⟨g, o, none⟩ v).heap[k]? = w.heap[k]? := Below.heap_setCell _ _ _ _ h
theorem set_owns {w : World} {base e size n g o : Nat} {x : Value} {xs : List Value} (v : Value) (h : w.ownsRow base e size x n xs) (hne : some g ≠ x.ownBlock) : (w.setCell ⟨g, o, none⟩ v).ownsRow base e size x n xs :=
  ownsRow_setCell_other h (fun h => hne h.symm) v
theorem cell_of_heap {w : World} {g : Nat} {cs : Array Value} {t : Nat} {fz : Nat × Nat} (h : w.heap[g]? = some (.cells cs t fz)) (o : Nat) : w.cell? ⟨g, o, none⟩ = cs[o]? := by simp [World.cell?, h]
theorem froz_of_heap {w : World} {g : Nat} {cs : Array Value} {t : Nat} (h : w.heap[g]? = some (.cells cs t (0, 0))) (o : Nat) : w.frozen? ⟨g, o, none⟩ = false := by simp [World.frozen?, h]
/-- What a world built of new blocks, draws, stores and contracts' worlds leaves, by its own tactic. -/
theorem blw {w W : World} (h : Below w.heap.size w W := by repeat (first | with_reducible exact brefl _ | with_reducible assumption | (with_reducible refine bset ?_ (by first | (simp; done) | (simp; omega)) _) | with_reducible refine balloc ?_ _ | with_reducible refine bdrew ?_ _ | with_reducible refine bdrew1 ?_ | with_reducible refine bthen ?_ (by assumption) | with_reducible refine Below.trans ?_ (by assumption) | exact brefl _ | assumption | refine balloc ?_ _ | refine bdrew ?_ _ | refine bdrew1 ?_ | refine bthen ?_ (by assumption) | refine Below.trans ?_ (by assumption) | (refine bset ?_ (by first | (simp; done) | (simp; omega)) _))) : Below w.heap.size w W := h
theorem wld_ofA {w W : World} {X : List Nat} (h : Same w X W := by repeat (first | with_reducible exact same_below (brefl _) | with_reducible exact same_below (bdrew1 (brefl _)) | with_reducible assumption | with_reducible refine same_drew ?_ | (with_reducible refine same_set ?_ (by first | (left; simp; done) | (right; simp; done) | (right; simp; omega)) _) | with_reducible refine same_then ?_ (by assumption) | with_reducible refine same_alloc ?_ _ | exact same_below (brefl _) | exact same_realloc (by simp) | exact same_below (bdrew1 (brefl _)) | assumption | refine same_drew ?_ | refine same_then ?_ (by assumption) | refine same_alloc ?_ _ | (refine same_set ?_ (by first | (left; simp; done) | (right; simp; done) | (right; simp; omega)) _))) : ∃ p : Wld w X, W = p.val := wld_of h
def KeptO (own : Nat → Nat → Prop) (w w' : World) : Prop := w.heap.size ≤ w'.heap.size ∧ ∀ (g : Nat) (cs : Array Value) (t : Nat) (fz : Nat × Nat), w.heap[g]? = some (.cells cs t fz) → ¬ own g t → w'.heap[g]? = w.heap[g]?
theorem KeptO.refl (own : Nat → Nat → Prop) (w : World) : KeptO own w w := ⟨Nat.le_refl _, fun _ _ _ _ _ _ => rfl⟩
theorem KeptO.trans {own : Nat → Nat → Prop} {a b c : World} (h : KeptO own a b) (k : KeptO own b c) : KeptO own a c := ⟨Nat.le_trans h.1 k.1, fun g cs t fz hg ht => (k.2 g cs t fz ((h.2 g cs t fz hg ht).trans hg) ht).trans (h.2 g cs t fz hg ht)⟩
theorem KeptO.below {own : Nat → Nat → Prop} {w w' : World} (h : Below w.heap.size w w') : KeptO own w w' := ⟨h.size, fun g _ _ _ hg _ => h.block g (Array.getElem?_eq_some_iff.1 hg).1⟩
/-- A row of the call's own that grows: all else stays. -/
theorem KeptO.grown {own : Nat → Nat → Prop} {w w' : World} {base e size n : Nat} {v : Value} {xs : List Value} (h : w.ownsRow base e size v n xs) (hg : w.grownBy w' v.ownBlock) (ho : ∀ k, some k = v.ownBlock → own k e) : KeptO own w w' :=
  ⟨hg.size, fun k cs t fz h1 ht => hg.block k (Array.getElem?_eq_some_iff.1 h1).1 (by
    rcases h.2 with ⟨rfl, _⟩ | ⟨g', cap, cur, rfl, _, hh, _⟩
    · simp [Value.ownBlock]
    · intro he
      have hk := ho k he
      simp only [Value.ownBlock, Option.some.injEq] at he
      subst he
      rw [hh] at h1
      injection h1 with h1
      injection h1 with _ h2 _
      subst h2
      exact ht hk)⟩
theorem KeptO.cell {own : Nat → Nat → Prop} {w w' : World} (h : KeptO own w w') {g : Nat} {cs : Array Value} {t : Nat} {fz : Nat × Nat} (hg : w.heap[g]? = some (.cells cs t fz)) (ht : ¬ own g t) (o : Nat) : w'.cell? ⟨g, o, none⟩ = cs[o]? := by
  rw [World.cell?_of_block (w := w) (by exact h.2 g cs t fz hg ht)]
  simp [World.cell?, hg]
structure KepP (own : Nat → Nat → Prop) (W : World) where
  val : World
  is : KeptO own W val
instance (own : Nat → Nat → Prop) (W : World) : Nonempty (KepP own W) := ⟨⟨W, KeptO.refl own W⟩⟩
theorem kepP_start (own : Nat → Nat → Prop) (W : World) : ∃ p : KepP own W, W.drew = p.val := ⟨⟨W.drew, KeptO.below (bdrew1 (brefl W))⟩, rfl⟩
theorem kepP_of {own : Nat → Nat → Prop} {W W' : World} (h : KeptO own W W') : ∃ p : KepP own W, W' = p.val := ⟨⟨W', h⟩, rfl⟩
theorem kepP_ofA {own : Nat → Nat → Prop} {W W' : World} (h : KeptO own W W' := by repeat (first | exact KeptO.refl _ _ | assumption | refine KeptO.trans ?_ (KeptO.below (bdrew1 (brefl _))) | refine KeptO.trans ?_ (KeptO.below (balloc (brefl _) _)) | refine KeptO.trans ?_ (KeptO.below (by assumption)) | refine KeptO.trans ?_ (by assumption))) : ∃ p : KepP own W, W' = p.val := kepP_of h
theorem row_at {w : World} {base e size n c : Nat} {a : Option Addr} {xs : List Value} (h : w.ownsRow base e size (.slice a n c) n xs) (j : Nat) (hj : j < n * size) :
    ∃ (g : Nat) (cs : Array Value) (u : Value), a = some ⟨g, 0, none⟩ ∧ base ≤ g ∧ w.heap[g]? = some (.cells cs e (0, 0)) ∧ w.cell? ⟨g, j, none⟩ = some u ∧ u ∈ xs ∧ w.frozen? ⟨g, j, none⟩ = false ∧ ∀ v, (w.setCell ⟨g, j, none⟩ v).ownsRow base e size (.slice a n c) n (xs.set j v) := by
  have hlen : xs.length = n * size := h.1
  rcases h.2 with ⟨_, rfl⟩ | ⟨g, cap, cur, hv, hg, hc, _⟩
  · simp at hj
  · injection hv with h1 h2 h3
    subst h1 h3
    refine ⟨g, cur, xs[j]'(by omega), rfl, hg, hc, ?_, List.getElem_mem _, h.frozenAt j, fun v => (h.stored j v).1⟩
    rw [h.cellAt j (by omega), List.getElem?_eq_getElem (by omega)]
theorem wpAppF {P : Program} {w : World} {ops : Array Oper} {rest : List Oper} {o : Oper} {a : Act} {Q : Exit → Act → World → Prop} (hgd : o.guard = none) (s x : Operand) (t : TypeId)
    (ho : o.op = .call { callee := .builtin .append, args := #[s, x], argTypes := #[t, t] })
    (base : Nat) (e : TypeId) (z : Value) (size bytes : Nat) (ht : P.underlying t = some (.slice e)) (hi : (P.info? e).map (fun i => (i.zero, i.size, i.bytes)) = some (some z, size, bytes)) (hzs : z.cells.size = size) (hsz : 0 < size)
    (ao : Option Addr) (n cap : Nat) (xs : List Value) (hs : a.eval s = .slice ao n cap) (hown : w.ownsRow base e size (.slice ao n cap) n xs)
    (p : Addr) (m c : Nat) (hm : 0 < m) (news : List Value) (hx : a.eval x = .slice (some p) m c) (hl : news.length = m * size) (hnews : Has w (some p) news) (h1 : ∀ u ∈ news, u.oneCell' = true)
    (h63 : n + m ≤ maxLen) (hbytes : (n + m) * bytes ≤ 140737488355328) (hbase : base ≤ w.heap.size)
    (h' : ∀ a' c' w', w'.ownsRow base e size (.slice a' (n + m) c') (n + m) (xs ++ news) → n + m ≤ c' → c' ≤ maxLen → (a' = none → c' = 0) → Below base w w' → w.grownBy w' (Value.slice ao n cap).ownBlock → (a' = ao ∨ ∀ p, a' = some p → w.heap.size ≤ p.block) → wpList P ops Q rest (a.put o.dst (.slice a' (n + m) c')) w') : wpList P ops Q (o :: rest) a w := by
  obtain ⟨i, hi, hz, hz1, hz2⟩ := info_parts hi
  have hnc : ∀ j u, news[j]? = some u → w.cell? (p.add j) = some u := fun j u hu => by
    obtain ⟨q, hq, hc⟩ := hnews j u hu
    cases hq
    exact hc
  obtain ⟨_, _, he, k1, k2, k3⟩ := owns_slice hown
  cases he
  by_cases hfit : n + m ≤ cap
  · rcases hown.2 with ⟨hv, hn0⟩ | ⟨g, cap', cur, hv, _⟩
    · cases hv
      omega
    · injection hv with e1 _ e3
      subst e1 e3
      exact wpList_append_fits w hgd s x t ho base e i size ht hi hz1 g n cap xs hs hown p m c news hx hl hnc h1 hfit fun w' g1 g2 =>
        h' _ _ w' g1 hfit k2 (fun h => by cases h) ((Below.refl base w).grown g2 hbase fun k hk => (hown.lt k (by cases hk; rfl)).1) g2 (.inl rfl)
  · have hlo : xs.length = n * size := hown.1
    refine wpList_append_grows w hgd s x t ho e i z size bytes ht hi hz hz1 hz2 hzs hsz ao n cap xs hs (fun h => ⟨by have := k3 h; omega, k3 h⟩) hlo (fun b hb j u hu => ?_) p m c news hx hl hnc h1 (by omega) h63 hbytes fun v' w' g1 g2 => ?_
    · obtain ⟨q, hq, hc⟩ := has_of_owns hown j u hu
      rw [hb] at hq
      cases hq
      exact hc
    · obtain ⟨a', c', rfl, r1, r2, r3⟩ := owns_slice g1
      have hb : Below w.heap.size w w' := (Below.refl _ w).grown g2 (Nat.le_refl _) (fun k hk => by cases hk)
      refine h' a' c' w' (owns_mono g1 hbase) r1 r2 r3 (hb.mono hbase) ⟨g2.os, g2.tape, g2.output, g2.size, fun k hk _ => g2.block k hk (by simp)⟩ (.inr fun q hq => ?_)
      rcases g1.2 with ⟨hv, _⟩ | ⟨g', cap', cur, hv, hg', _⟩
      · injection hv with _ e2 _; omega
      · injection hv with e1 _ _
        subst e1
        cases hq
        exact hg'
end Go.Proofs.Ythehcbbdkiomnaa
end
section

/- Rows whose blocks are of a known type; rules, subtables and chains in memory. No walk. -/
namespace Go.Proofs.Ythehcbbdkiomnaa
open Go.RowKit Go.Lib

/-- A row in memory, in blocks of a type. -/
def HasT (t : TypeId) (w : World) (a : Option Addr) (xs : List Value) : Prop := Has w a xs ∧ (xs ≠ [] → ∀ p, a = some p → ∃ cs fz, w.heap[p.block]? = some (.cells cs t fz))
theorem HasT.below {t : TypeId} {w w' : World} {a : Option Addr} {xs : List Value} (h : HasT t w a xs) (hb : Below w.heap.size w w') : HasT t w' a xs :=
  ⟨h.1.below hb, fun hx p hp => by
    obtain ⟨cs, fz, hg⟩ := h.2 hx p hp
    exact ⟨cs, fz, (hb.block _ (Array.getElem?_eq_some_iff.1 hg).1).trans hg⟩⟩
theorem hasT_of_owns {t : TypeId} {w : World} {base size n m c : Nat} {a : Option Addr} {xs : List Value} (h : w.ownsRow base t size (.slice a m c) n xs) : HasT t w a xs := by
  refine ⟨has_of_owns h, fun hne p hp => ?_⟩
  rcases h.2 with ⟨hv, _⟩ | ⟨g, cap, cur, hv, _, hh, _⟩
  · injection hv with h1 h2 h3
    rw [hp] at h1
    cases h1
  · injection hv with h1 h2 h3
    rw [hp] at h1
    cases h1
    exact ⟨_, _, hh⟩
/-- What keeps all blocks of its type keeps it. -/
theorem HasT.keep {t : TypeId} {w w' : World} {a : Option Addr} {xs : List Value} (h : HasT t w a xs) (hk : ∀ (g : Nat) (cs : Array Value) (fz : Nat × Nat), w.heap[g]? = some (.cells cs t fz) → w'.heap[g]? = w.heap[g]?) : HasT t w' a xs := by
  refine ⟨fun j u hu => ?_, fun hx p hp => ?_⟩
  · obtain ⟨p, hp, hc⟩ := h.1 j u hu
    obtain ⟨cs, fz, hg⟩ := h.2 (by rintro rfl; simp at hu) p hp
    refine ⟨p, hp, ?_⟩
    rw [World.cell?_of_block (w := w) (by rw [add_block]; exact hk _ _ _ hg)]
    exact hc
  · obtain ⟨cs, fz, hg⟩ := h.2 hx p hp
    exact ⟨cs, fz, (hk _ _ _ hg).trans hg⟩
theorem HasT.keptE {t e : TypeId} {w w' : World} {a : Option Addr} {xs : List Value} (h : HasT t w a xs) (hk : KeptE e w w') (hne : t ≠ e) : HasT t w' a xs := h.keep fun g cs fz hg => hk.2 g cs t fz hg hne
theorem HasT.keptO {own : Nat → Nat → Prop} {t : TypeId} {w w' : World} {a : Option Addr} {xs : List Value} (h : HasT t w a xs) (hk : KeptO own w w') (hne : ∀ k, ¬ own k t) : HasT t w' a xs := h.keep fun g cs fz hg => hk.2 g cs t fz hg (hne g)
theorem HasT.set {t e : TypeId} {w : World} {a : Option Addr} {xs : List Value} (h : HasT t w a xs) {g : Nat} {cs : Array Value} {fz : Nat × Nat} (hg : w.heap[g]? = some (.cells cs e fz)) (hne : t ≠ e) (o : Nat) (v : Value) : HasT t (w.setCell ⟨g, o, none⟩ v) a xs :=
  h.keep fun k cs' fz' hk => set_heap_other v (by
    rintro rfl
    rw [hg] at hk
    injection hk with hk
    injection hk with _ h2 _
    exact hne h2.symm)
/-- A subtable in memory. -/
structure SubR where
  co : Nat
  fl : Nat
  a : Option Addr
  n : Nat
  c : Nat
  bs : List UInt8
def SubR.enc (r : SubR) : List Value := [.int .u32 (r.co : Nat), .int .u32 (r.fl : Nat), .slice r.a r.n r.c]
def SubR.d (r : SubR) : SubD9 := ⟨r.co, r.fl, r.bs⟩
structure SubR.Is (L : Nat) (w : World) (r : SubR) : Prop where
  has : BHas L r.a r.bs w
  len : r.bs.length = r.n
  cap : r.n ≤ r.c
  max : r.c ≤ maxLen
theorem SubR.Is.below {L : Nat} {w w' : World} {r : SubR} (h : r.Is L w) (hb : Below w.heap.size w w') : r.Is L w' := ⟨h.has.below hb, h.len, h.cap, h.max⟩
/-- What keeps all blocks of bytes, and all below a place, keeps bytes. -/
theorem BHas.stay {L : Nat} {a : Option Addr} {bs : List UInt8} {w w' : World} (h : BHas L a bs w) (hL : ∀ k, k < L → w'.heap[k]? = w.heap[k]?) (hk : ∀ (g : Nat) (cs : Array Value) (fz : Nat × Nat), w.heap[g]? = some (.cells cs 5 fz) → w'.heap[g]? = w.heap[g]?) : BHas L a bs w' := by
  have hx : ∀ p, a = some p → w'.heap[p.block]? = w.heap[p.block]? := by
    intro p hp
    rcases h.far p hp with h1 | ⟨cs, fz, h1⟩
    · exact hL _ h1
    · exact hk _ _ _ h1
  refine ⟨fun j u hu => ?_, fun p hp => ?_⟩
  · obtain ⟨p, hp, hc⟩ := h.has j u hu
    refine ⟨p, hp, ?_⟩
    rw [World.cell?_of_block (w := w) (by rw [add_block]; exact hx p hp)]
    exact hc
  · rcases h.far p hp with h1 | ⟨cs, fz, h1⟩
    · exact .inl h1
    · exact .inr ⟨cs, fz, (hx p hp).trans h1⟩
theorem BHas.take {L : Nat} {a : Option Addr} {bs : List UInt8} {w : World} (h : BHas L a bs w) (k : Nat) : BHas L a (bs.take k) w := ⟨by have := h.has.take k; rwa [bytesV_take] at this, h.far⟩
theorem BHas.set {L : Nat} {a : Option Addr} {bs : List UInt8} {w : World} (h : BHas L a bs w) {g : Nat} {cs : Array Value} {e : TypeId} {fz : Nat × Nat} (hg : w.heap[g]? = some (.cells cs e fz)) (he : e ≠ 5) (hL : L ≤ g) (o : Nat) (v : Value) : BHas L a bs (w.setCell ⟨g, o, none⟩ v) :=
  h.stay (fun k hk => set_heap_other v (by omega)) (fun k cs' fz' hk => set_heap_other v (by
    rintro rfl
    rw [hg] at hk
    injection hk with hk
    injection hk with _ h2 _
    exact he h2))
theorem BHas.keptO {L : Nat} {own : Nat → Nat → Prop} {a : Option Addr} {bs : List UInt8} {w w' : World} (h : BHas L a bs w) (hb : Below L w w') (hk : KeptO own w w') (ho : ∀ k, ¬ own k 5) : BHas L a bs w' :=
  h.stay (fun k hk2 => hb.block k hk2) (fun g cs fz hg => hk.2 g cs _ fz hg (ho g))
theorem SubR.Is.set {L : Nat} {w : World} {r : SubR} (h : r.Is L w) {g : Nat} {cs : Array Value} {e : TypeId} {fz : Nat × Nat} (hg : w.heap[g]? = some (.cells cs e fz)) (he : e ≠ 5) (hL : L ≤ g) (o : Nat) (v : Value) : r.Is L (w.setCell ⟨g, o, none⟩ v) := ⟨h.has.set hg he hL o v, h.len, h.cap, h.max⟩
theorem SubR.Is.keptO {L : Nat} {own : Nat → Nat → Prop} {w w' : World} {r : SubR} (h : r.Is L w) (hb : Below L w w') (hk : KeptO own w w') (ho : ∀ k, ¬ own k 5) : r.Is L w' := ⟨h.has.keptO hb hk ho, h.len, h.cap, h.max⟩
def subRV (l : List SubR) : List Value := l.flatMap SubR.enc
def ruDV (l : List RuD) : List Value := l.flatMap RuD.enc
theorem ruDV_length (l : List RuD) : (ruDV l).length = l.length * 4 := by
  induction l with
  | nil => rfl
  | cons x l ih => simp only [ruDV, List.flatMap_cons, List.length_append, RuD.enc, List.length_cons, List.length_nil] at *; omega
theorem subRV_snoc (l : List SubR) (r : SubR) : subRV (l ++ [r]) = subRV l ++ r.enc := by simp [subRV]
theorem ruDV_snoc (l : List RuD) (r : RuD) : ruDV (l ++ [r]) = ruDV l ++ r.enc := by simp [ruDV]
/-- A chain in memory. -/
structure ChR where
  first : Nat
  ar : Option Addr
  cr : Nat
  sa : Option Addr
  sc : Nat
  rules : List RuD
  subs : List SubR
def ChR.enc (r : ChR) : List Value := [.int .u32 (r.first : Nat), .slice r.ar r.rules.length r.cr, .slice r.sa r.subs.length r.sc]
def ChR.d (r : ChR) : ChD := ⟨r.first, r.rules, r.subs.map SubR.d⟩
structure ChR.Is (L : Nat) (w : World) (r : ChR) : Prop where
  rules : HasT 85 w r.ar (ruDV r.rules)
  subs : HasT 91 w r.sa (subRV r.subs)
  each : ∀ s ∈ r.subs, s.Is L w
  capR : r.rules.length ≤ r.cr
  maxR : r.cr ≤ maxLen
  capS : r.subs.length ≤ r.sc
  maxS : r.sc ≤ maxLen
theorem ChR.Is.below {L : Nat} {w w' : World} {r : ChR} (h : r.Is L w) (hb : Below w.heap.size w w') : r.Is L w' := ⟨h.rules.below hb, h.subs.below hb, fun s hs => (h.each s hs).below hb, h.capR, h.maxR, h.capS, h.maxS⟩
theorem ChR.Is.set {L : Nat} {w : World} {r : ChR} (h : r.Is L w) {g : Nat} {cs : Array Value} {e : TypeId} {fz : Nat × Nat} (hg : w.heap[g]? = some (.cells cs e fz)) (h1 : e ≠ 5) (h2 : 85 ≠ e) (h3 : 91 ≠ e) (hL : L ≤ g) (o : Nat) (v : Value) : r.Is L (w.setCell ⟨g, o, none⟩ v) :=
  ⟨h.rules.set hg h2 o v, h.subs.set hg h3 o v, fun s hs => (h.each s hs).set hg h1 hL o v, h.capR, h.maxR, h.capS, h.maxS⟩
theorem ChR.Is.keptO {L : Nat} {own : Nat → Nat → Prop} {w w' : World} {r : ChR} (h : r.Is L w) (hb : Below L w w') (hk : KeptO own w w') (h1 : ∀ k, ¬ own k 5) (h2 : ∀ k, ¬ own k 85) (h3 : ∀ k, ¬ own k 91) : r.Is L w' :=
  ⟨h.rules.keptO hk h2, h.subs.keptO hk h3, fun s hs => (h.each s hs).keptO hb hk h1, h.capR, h.maxR, h.capS, h.maxS⟩
def chRV (l : List ChR) : List Value := l.flatMap ChR.enc
theorem chRV_snoc (l : List ChR) (r : ChR) : chRV (l ++ [r]) = chRV l ++ r.enc := by simp [chRV]
theorem ruDV_get : ∀ (l : List RuD) (k : Nat) (r : RuD), l[k]? = some r → ∀ o, o < 4 → (ruDV l)[k * 4 + o]? = r.enc[o]?
  | [], _, _, h, _, _ => by simp at h
  | x :: l, 0, r, h, o, ho => by
    simp at h; subst h
    show (x.enc ++ ruDV l)[0 * 4 + o]? = _
    rw [Nat.zero_mul, Nat.zero_add, List.getElem?_append_left (by simpa [RuD.enc] using ho)]
  | x :: l, k + 1, r, h, o, ho => by
    have := ruDV_get l k r (by simpa using h) o ho
    show (x.enc ++ ruDV l)[(k + 1) * 4 + o]? = _
    rw [List.getElem?_append_right (by simp [RuD.enc]; omega), show (k + 1) * 4 + o - (x.enc).length = k * 4 + o by simp [RuD.enc]; omega, this]
/-- The first j rules, the others zeros. -/
def zeroRu (m : Nat) : List Value := (List.replicate m (⟨0, 0, 0, 0⟩ : RuD)).flatMap RuD.enc
theorem made_rule (n : Nat) : (madeCells (Value.agg #[.int .i64 0, .int .i64 0, .int .u32 0, .int .u32 0]).cells (n * 4)).toList = zeroRu n := by
  apply List.ext_getElem?
  intro j
  have hz : (zeroRu n) = ruDV (List.replicate n ⟨0, 0, 0, 0⟩) := rfl
  rw [hz]
  simp only [madeCells, Value.cells]
  by_cases h : j < n * 4
  · have h2 : (List.replicate n (⟨0, 0, 0, 0⟩ : RuD))[j / 4]? = some ⟨0, 0, 0, 0⟩ := by rw [List.getElem?_replicate, if_pos (by omega)]
    have h3 := ruDV_get _ _ _ h2 (j % 4) (by omega)
    rw [show j / 4 * 4 + j % 4 = j by omega] at h3
    rw [h3]
    simp [h, RuD.enc]
    have : j % 4 = 0 ∨ j % 4 = 1 ∨ j % 4 = 2 ∨ j % 4 = 3 := by omega
    rcases this with e | e | e | e <;> simp [e]
  · have h4 : (ruDV (List.replicate n (⟨0, 0, 0, 0⟩ : RuD)))[j]? = none := List.getElem?_eq_none (by rw [ruDV_length]; simp; omega)
    rw [h4]
    simp [h]
end Go.Proofs.Ythehcbbdkiomnaa
end
section

/- The document's Put, and where the new row lies; two rows of bytes that lie apart. Conditions: a slice of the call's own; a number from 0 on. -/
namespace Go.Proofs.Ythehcbbdkiomnaa
open Go.RowKit Go.Lib

/-- Blocks but the row's own are as they were; the new row lies there, or in a new block. -/
def PutFar (W : World) (a : Option Addr) (wr : World) (a1 : Option Addr) : Prop :=
  W.heap.size ≤ wr.heap.size ∧ (∀ k, k < W.heap.size → (∀ p, a = some p → p.block ≠ k) → wr.heap[k]? = W.heap[k]?) ∧ (∀ p, a1 = some p → (∃ q, a = some q ∧ q.block = p.block) ∨ W.heap.size ≤ p.block)
theorem PutFar.refl (W : World) (a : Option Addr) : PutFar W a W a := ⟨Nat.le_refl _, fun _ _ _ => rfl, fun p hp => .inl ⟨p, hp, rfl⟩⟩
theorem PutFar.trans {W V U : World} {a b d : Option Addr} (h : PutFar W a V b) (k : PutFar V b U d) : PutFar W a U d := by
  refine ⟨Nat.le_trans h.1 k.1, fun x hx hne => ?_, fun p hp => ?_⟩
  · refine (k.2.1 x (by have := h.1; omega) fun q hq hb => ?_).trans (h.2.1 x hx hne)
    rcases h.2.2 q hq with ⟨r, hr, hr2⟩ | hge
    · exact hne r hr (by rw [hr2]; exact hb)
    · omega
  · rcases k.2.2 p hp with ⟨q, hq, hq2⟩ | hge
    · rcases h.2.2 q hq with ⟨r, hr, hr2⟩ | hge
      · exact .inl ⟨r, hr, by rw [hr2, hq2]⟩
      · exact .inr (by omega)
    · exact .inr (by have := h.1; omega)
theorem PutFar.below {W V : World} (a : Option Addr) (h : Below W.heap.size W V) : PutFar W a V a := ⟨h.size, fun k hk _ => h.block k hk, fun p hp => .inl ⟨p, hp, rfl⟩⟩
theorem PutFar.grown {W V : World} {ao a' : Option Addr} {n cap : Nat} (h : W.grownBy V (Value.slice ao n cap).ownBlock) (h2 : a' = ao ∨ ∀ p, a' = some p → W.heap.size ≤ p.block) : PutFar W ao V a' := by
  refine ⟨h.size, fun k hk hne => h.block k hk fun he => ?_, fun p hp => ?_⟩
  · cases ao with
    | none => simp [Value.ownBlock] at he
    | some q => simp only [Value.ownBlock, Option.some.injEq] at he; exact hne q rfl he.symm
  · rcases h2 with rfl | h2
    · exact .inl ⟨p, hp, rfl⟩
    · exact .inr (h2 p hp)
def PutR2 (W : World) (a0 : Option Addr) (base n : Nat) (xs : List UInt8) (z size : Nat) (b i : Value) (wr : World) : Prop :=
  ∃ s P a c, s ≤ size ∧ P ++ beN s z = beN size z ∧ P.length + s = size ∧ i = .int .i64 ((s : Int) - 1) ∧ b = .slice a (n + P.length) c ∧ wr.ownsRow base 5 1 b (n + P.length) (bytesV (xs ++ P)) ∧ n + P.length ≤ c ∧ c ≤ maxLen ∧ (a = none → c = 0) ∧ Below base W wr ∧ Kept W wr ∧ PutFar W a0 wr a
set_option maxRecDepth 100000 in
set_option maxHeartbeats 1600000 in
theorem put_far (base : Nat) (a : Option Addr) (n c z size : Nat) (xs : List UInt8) (w : World) (hown : w.ownsRow base 5 1 (.slice a n c) n (bytesV xs)) (hbase : base ≤ w.heap.size) (hz : z < 9223372036854775808) (hn : n ≤ 1000000000) (hs : size ≤ 8) :
    Calls Try.prog 54 #[.slice a n c, .int .i64 z, .int .i64 size] w fun e w' => ∃ a' c', e = .returned (.slice a' (n + size) c') ∧ w'.ownsRow base 5 1 (.slice a' (n + size) c') (n + size) (bytesV (xs ++ beN size z)) ∧ n + size ≤ c' ∧ c' ≤ maxLen ∧ (a' = none → c' = 0) ∧ Below base w w' ∧ Kept w w' ∧ PutFar w a w' a' := by
  obtain ⟨_, _, he, k1, k2, k3⟩ := owns_slice hown
  cases he
  have HO := Lib.hid hown
  have HA := Lib.hid k3
  clear hown k3
  go_enter Try.func54, Try.ntmps54
  go_wp2_with fail
  go_loopw [0, 7] (PutR2 w a base n xs z size) (fun _ i _ => ((Go.RowKit.intOf i) + 1).toNat)
  case atStart => exact ⟨size, [], a, c, Nat.le_refl _, rfl, by simp, by first | rfl | go_num, rfl, by simpa using HO.out, by simpa using k1, k2, HA.out, Below.refl _ _, Kept.refl _, PutFar.refl _ _⟩
  case round =>
    obtain ⟨s, P, a1, c1, hss, hP, hPl, rfl, rfl, hox, k11, k12, k13, hbr, hkp, hpf⟩ := hrel
    have HKP := Lib.hid hkp
    have HPF := Lib.hid hpf
    clear hpf
    have hwz := hkp.1
    clear hkp
    have HX := Lib.hid hox
    have HA1 := Lib.hid k13
    have HP := Lib.hid hP
    have HPL := Lib.hid hPl
    have HB := Lib.hid hbr
    clear hox k13 hP hPl hbr
    rcases s with _ | s
    · go_wp2
      go_ret
      have e0 : P = beN size z := by have := HP.out; simpa [beN] using this
      have hpl : P.length = size := by have := HPL.out; omega
      rw [hpl] at HX k11
      exact ⟨a1, c1, by rw [hpl]; rfl, by rw [← e0]; exact HX.out, k11, k12, HA1.out, HB.out, HKP.out, HPF.out⟩
    · have e1 : (((s + 1 : Nat) : Int) - 1) = (s : Int) := by omega
      rw [e1]
      go_wp2_with fail
      go_loopw [8, 9] (fun k j W => ∃ m : Nat, m ≤ s ∧ j = .int .i64 (m : Nat) ∧ k = .int .i64 ((z / 256 ^ m : Nat) : Int) ∧ W = wr) (fun _ j _ => s - (Go.RowKit.intOf j).toNat)
      case atStart => exact ⟨0, Nat.zero_le _, rfl, by simp, by first | rfl | trivial⟩
      case round =>
        obtain ⟨m, hm, rfl, rfl, rfl⟩ := hrel
        have hle : z / 256 ^ m ≤ z := Nat.div_le_self _ _
        by_cases hlt : m < s
        · have e2 : z / 256 ^ (m + 1) = z / 256 ^ m / 256 := by rw [Nat.pow_succ, Nat.div_div_eq_div_mul]
          have E2 := Lib.hid e2
          clear e2
          generalize z / 256 ^ m = q at *
          go_wp2
          go_roundw
          case rel => exact ⟨m + 1, by omega, by go_num, by rw [E2.out]; go_num, by first | rfl | trivial⟩
          case measure => first | (simp [Go.RowKit.intOf]; done) | (simp [Go.RowKit.intOf]; omega)
        · obtain rfl : m = s := by omega
          have e3 : bytesV [UInt8.ofNat (z / 256 ^ m)] = [.int .u8 ((z / 256 ^ m : Nat) % 256 : Int)] := by simp [bytesV, UInt8.toNat_ofNat']
          have E3 := Lib.hid e3
          have hbe : beN (m + 1) z = UInt8.ofNat (z / 256 ^ m) :: beN m z := rfl
          have HBE := Lib.hid hbe
          clear e3 hbe
          generalize z / 256 ^ m = q at *
          have hpm : P.length + (m + 1) = size := HPL.out
          go_wp2_with (at_builtin; refine wpAppF rfl _ _ 22 rfl base 5 (.int .u8 0) 1 1 Try.underlying22 u8_info rfl (by decide) a1 (n + P.length) c1 (bytesV (xs ++ P)) rfl (owns_below HX.out (balloc (brefl wr) _) (Nat.le_refl _)) ⟨wr.heap.size, 0, none⟩ 1 1 (by decide) (bytesV [UInt8.ofNat q]) rfl rfl (by rw [E3.out]; exact has_alloc _ _ _) (bytesV_one _) (by unfold maxLen; omega) (by omega) (by simp; omega) ?_; intro a6 c6 w6 hown6 k61 k62 k63 hb6 hg6 hf6; have HO6 := Lib.hid hown6; have HA6 := Lib.hid k63; have HB6 := Lib.hid hb6; have HG6 := Lib.hid hg6; have HF6 := Lib.hid hf6; clear hown6 k63 hb6 hg6 hf6)
          go_roundw
          case rel => exact ⟨m, P ++ [UInt8.ofNat q], a6, c6, by omega, by have := HP.out; rw [HBE.out] at this; simpa using this, by simp; omega, by first | rfl | go_num, by first | (simp; done) | (simp; rfl), by rw [← List.append_assoc, bytesV_append (xs ++ P), List.length_append, ← Nat.add_assoc]; exact HO6.out, by simp; omega, k62, HA6.out, HB.out.trans (((balloc (brefl wr) _).mono (by omega)).trans HB6.out), HKP.out.trans ((Kept.below (balloc (brefl wr) _)).trans (Kept.grown (owns_below HX.out (balloc (brefl wr) _) (Nat.le_refl _)) HG6.out)), HPF.out.trans ((PutFar.below _ (balloc (brefl wr) _)).trans (PutFar.grown HG6.out HF6.out))⟩
          case measure => first | (simp [Go.RowKit.intOf]; done) | (simp [Go.RowKit.intOf]; omega)

theorem put_z (base : Nat) (a : Option Addr) (n c z size : Nat) (y s : Int) (hy : y = (z : Nat)) (hsz : s = (size : Nat)) (xs : List UInt8) (w : World) (hown : w.ownsRow base 5 1 (.slice a n c) n (bytesV xs)) (hbase : base ≤ w.heap.size) (hz : z < 9223372036854775808) (hn : n ≤ 1000000000) (hs : size ≤ 8) :
    Calls Try.prog 54 #[.slice a n c, .int .i64 y, .int .i64 s] w fun e w' => ∃ a' c', e = .returned (.slice a' (n + size) c') ∧ w'.ownsRow base 5 1 (.slice a' (n + size) c') (n + size) (bytesV (xs ++ beN size z)) ∧ n + size ≤ c' ∧ c' ≤ maxLen ∧ (a' = none → c' = 0) ∧ Below base w w' ∧ Kept w w' ∧ PutFar w a w' a' := by
  subst hy hsz; exact put_far base a n c z size xs w hown hbase hz hn hs
def FarA (a b : Option Addr) : Prop := ∀ p q, a = some p → b = some q → p.block ≠ q.block
theorem owns_lt {w : World} {base e size n cap : Nat} {a : Option Addr} {xs : List Value} (h : w.ownsRow base e size (.slice a n cap) n xs) : ∀ p, a = some p → base ≤ p.block ∧ p.block < w.heap.size := by
  intro p hp
  exact h.lt p.block (by rw [hp]; rfl)
theorem owns_far {W V : World} {a2 a6 a4 : Option Addr} {base e size n cap : Nat} {xs : List Value} (h : W.ownsRow base e size (.slice a4 n cap) n xs) (hp : PutFar W a2 V a6) (hf : FarA a2 a4) : V.ownsRow base e size (.slice a4 n cap) n xs := by
  refine ⟨h.1, ?_⟩
  rcases h.2 with q | ⟨q, cap, cur, hv, hq, hh, r⟩
  · exact .inl q
  · refine .inr ⟨q, cap, cur, hv, hq, ?_, r⟩
    rw [hp.2.1 q (Array.getElem?_eq_some_iff.1 hh).1 (fun p hpa => by
      injection hv with e1 _ _
      exact hf p _ hpa e1)]
    exact hh
theorem far_put {W V : World} {a2 a6 a4 : Option Addr} (hp : PutFar W a2 V a6) (hf : FarA a2 a4) (h4 : ∀ q, a4 = some q → q.block < W.heap.size) : FarA a6 a4 := by
  intro p q h1 h2
  rcases hp.2.2 p h1 with ⟨r, hr, hr2⟩ | hge
  · rw [← hr2]; exact hf r q hr h2
  · have := h4 q h2; omega
/-- Two rows of bytes, not in one block. -/
structure Two (b : Nat) (W : World) (a1 : Option Addr) (n1 c1 : Nat) (x1 : List UInt8) (a2 : Option Addr) (n2 c2 : Nat) (x2 : List UInt8) : Prop where
  o1 : W.ownsRow b 5 1 (.slice a1 n1 c1) n1 (bytesV x1)
  o2 : W.ownsRow b 5 1 (.slice a2 n2 c2) n2 (bytesV x2)
  f : FarA a1 a2
theorem Two.put1 {b : Nat} {W V : World} {a1 a2 a' : Option Addr} {n1 c1 n2 c2 n' c' : Nat} {x1 x2 x' : List UInt8} (h : Two b W a1 n1 c1 x1 a2 n2 c2 x2) (hp : PutFar W a1 V a') (ho : V.ownsRow b 5 1 (.slice a' n' c') n' (bytesV x')) : Two b V a' n' c' x' a2 n2 c2 x2 :=
  ⟨ho, owns_far h.o2 hp h.f, far_put hp h.f (fun q hq => (owns_lt h.o2 q hq).2)⟩
theorem Two.below {b : Nat} {W V : World} {a1 a2 : Option Addr} {n1 c1 n2 c2 : Nat} {x1 x2 : List UInt8} (h : Two b W a1 n1 c1 x1 a2 n2 c2 x2) (hb : Below W.heap.size W V) : Two b V a1 n1 c1 x1 a2 n2 c2 x2 := ⟨owns_below h.o1 hb (Nat.le_refl _), owns_below h.o2 hb (Nat.le_refl _), h.f⟩
end Go.Proofs.Ythehcbbdkiomnaa
end
section

/- A table of chains as its law writes it: its bytes. No walk, no condition beside what each says. -/
namespace Go.Proofs.Ythehcbbdkiomnaa
open Go.RowKit Go.Lib

structure LSub where
  co : Nat
  fl : Nat
  a : Option Addr
  c : Nat
  bs : List UInt8
structure LCh where
  first : Nat
  ar : Option Addr
  cr : Nat
  rules : List RuD
  sa : Option Addr
  sc : Nat
  subs : List LSub
  more : Nat
def lruV (r : RuD) : List Value := [.int .u16 (r.t : Nat), .int .u16 (r.v : Nat), .int .u32 (r.en : Nat), .int .u32 (r.di : Nat)]
def LSub.enc (s : LSub) : List Value := [.int .u32 (s.co : Nat), .int .u32 (s.fl : Nat), .slice s.a s.bs.length s.c]
def LSub.d (s : LSub) : SubD9 := ⟨s.co, s.fl, s.bs⟩
def LCh.enc (p : LCh) : List Value := [.int .u32 (p.first : Nat), .slice p.ar p.rules.length p.cr, .slice p.sa p.subs.length p.sc, .int .u8 (p.more : Nat)]
def LCh.d (p : LCh) : ChD := ⟨p.first, p.rules, p.subs.map LSub.d⟩
structure LCh.Ok (w : World) (p : LCh) : Prop where
  first : p.first ≤ 4294967295
  more : p.more ≤ 255
  rules : ∀ r ∈ p.rules, r.t ≤ 65535 ∧ r.v ≤ 65535 ∧ r.en ≤ 4294967295 ∧ r.di ≤ 4294967295
  subs : ∀ s ∈ p.subs, s.co ≤ 4294967295 ∧ s.fl ≤ 4294967295 ∧ Has w s.a (bytesV s.bs) ∧ (s.a = none → s.c = 0)
  hasR : Has w p.ar (p.rules.flatMap lruV)
  hasS : Has w p.sa (p.subs.flatMap LSub.enc)
theorem LCh.Ok.below {w w' : World} {p : LCh} (h : p.Ok w) (hb : Below w.heap.size w w') : p.Ok w' := ⟨h.first, h.more, h.rules, fun s hs => ⟨(h.subs s hs).1, (h.subs s hs).2.1, (h.subs s hs).2.2.1.below hb, (h.subs s hs).2.2.2⟩, h.hasR.below hb, h.hasS.below hb⟩
/-- No more than is looked at. -/
structure LCh.Few (p : LCh) : Prop where
  rules : p.rules.length ≤ 40
  subs : p.subs.length ≤ 10
  data : ∀ s ∈ p.subs, s.bs.length ≤ 400
def ruB (r : RuD) : List UInt8 := beN 2 r.t ++ beN 2 r.v ++ beN 4 r.en ++ beN 4 r.di
def sbB (s : LSub) : List UInt8 := beN 4 (12 + s.bs.length) ++ beN 4 s.co ++ beN 4 s.fl ++ s.bs
def rusB (l : List RuD) : List UInt8 := l.flatMap ruB
def sbsB (l : List LSub) : List UInt8 := l.flatMap sbB
def inB (p : LCh) : List UInt8 := rusB p.rules ++ sbsB p.subs ++ List.replicate (p.more % 8) 0
def chB (p : LCh) : List UInt8 := beN 4 p.first ++ beN 4 (16 + (inB p).length) ++ beN 4 p.rules.length ++ beN 4 p.subs.length ++ inB p
def headC (n : Nat) : List UInt8 := beN 2 2 ++ beN 2 0 ++ beN 4 n
def chsL (l : List LCh) : List UInt8 := l.flatMap chB
def chsB (l : List LCh) : List UInt8 := headC l.length ++ chsL l
theorem ruB_length (r : RuD) : (ruB r).length = 12 := by simp [ruB, beN_length]
theorem sbB_length (s : LSub) : (sbB s).length = 12 + s.bs.length := by simp [sbB, beN_length]; omega
theorem rusB_length (l : List RuD) : (rusB l).length = 12 * l.length := by
  induction l with
  | nil => rfl
  | cons x l ih => simp only [rusB, List.flatMap_cons, List.length_append, ruB_length, List.length_cons] at *; omega
theorem rusB_snoc (l : List RuD) (r : RuD) : rusB (l ++ [r]) = rusB l ++ ruB r := by simp [rusB]
theorem sbsB_snoc (l : List LSub) (s : LSub) : sbsB (l ++ [s]) = sbsB l ++ sbB s := by simp [sbsB]
theorem chsL_snoc (l : List LCh) (p : LCh) : chsL (l ++ [p]) = chsL l ++ chB p := by simp [chsL]
theorem sbsB_le (l : List LSub) (h : ∀ s ∈ l, s.bs.length ≤ 400) : (sbsB l).length ≤ 412 * l.length := by
  induction l with
  | nil => simp [sbsB]
  | cons s l ih =>
    have h1 := h s (by simp)
    have h2 := ih (fun q hq => h q (by simp [hq]))
    simp only [sbsB, List.flatMap_cons, List.length_append, sbB_length, List.length_cons] at *
    omega
theorem inB_length (p : LCh) : (inB p).length = 12 * p.rules.length + (sbsB p.subs).length + p.more % 8 := by
  unfold inB
  rw [List.length_append, List.length_append, rusB_length, List.length_replicate]
theorem chB_length (p : LCh) : (chB p).length = 16 + (inB p).length := by
  unfold chB
  simp only [List.length_append, beN_length]
theorem inB_le {p : LCh} (h : p.Few) : (inB p).length ≤ 4607 := by
  have := sbsB_le p.subs h.data
  have h1 := h.rules
  have h2 := h.subs
  rw [inB_length]
  omega
theorem chsL_le (l : List LCh) (h : ∀ p ∈ l, p.Few) : (chsL l).length ≤ 4623 * l.length := by
  induction l with
  | nil => simp [chsL]
  | cons p l ih =>
    have h1 := inB_le (h p (by simp))
    have h2 := ih (fun q hq => h q (by simp [hq]))
    simp only [chsL, List.flatMap_cons, List.length_append, chB_length, List.length_cons] at *
    omega
theorem headC_length (n : Nat) : (headC n).length = 8 := by simp [headC, beN_length]
theorem chsB_length (l : List LCh) : (chsB l).length = 8 + (chsL l).length := by rw [chsB, List.length_append, headC_length]
def lchV (l : List LCh) : List Value := l.flatMap LCh.enc
theorem flat_get {α : Type} (f : α → List Value) (z : Nat) (hz : ∀ x, (f x).length = z) : ∀ (l : List α) (k : Nat) (x : α), l[k]? = some x → ∀ o, o < z → (l.flatMap f)[k * z + o]? = (f x)[o]?
  | [], _, _, h, _, _ => by simp at h
  | y :: l, 0, x, h, o, ho => by
    simp at h; subst h
    rw [List.flatMap_cons, Nat.zero_mul, Nat.zero_add, List.getElem?_append_left (by rw [hz]; exact ho)]
  | y :: l, k + 1, x, h, o, ho => by
    have := flat_get f z hz l k x (by simpa using h) o ho
    rw [List.flatMap_cons, List.getElem?_append_right (by rw [hz, Nat.succ_mul]; omega), hz, show (k + 1) * z + o - z = k * z + o by rw [Nat.succ_mul]; omega, this]
/-- Where the cells of a row of structs lie. -/
theorem flat_cells {α : Type} {f : α → List Value} {z : Nat} (hz : ∀ x, (f x).length = z) (h0 : 0 < z) {w : World} {a : Option Addr} {l : List α} (h : Has w a (l.flatMap f)) {k : Nat} {x : α} (hx : l[k]? = some x) : ∃ b o, a = some ⟨b, o, none⟩ ∧ b < w.heap.size ∧ ∀ j, j < z → ∀ u, (f x)[j]? = some u → w.cell? ⟨b, o + k * z + j, none⟩ = some u := by
  have hg := flat_get f z hz l k x hx
  have h00 := hg 0 h0
  obtain ⟨b, o, rfl, hb, hc⟩ := h.get (by
    rcases Nat.eq_zero_or_pos (l.flatMap f).length with g | g
    · have hn : (l.flatMap f)[k * z + 0]? = none := List.getElem?_eq_none (by omega)
      rw [hn] at h00
      have : (f x)[0]? ≠ none := by
        rw [List.getElem?_eq_getElem (by rw [hz]; exact h0)]
        simp
      exact absurd h00.symm this
    · exact g)
  refine ⟨b, o, rfl, hb, fun j hj u hu => ?_⟩
  have := hc (k * z + j) u ((hg j hj).trans hu)
  rwa [← Nat.add_assoc] at this
end Go.Proofs.Ythehcbbdkiomnaa
end
section

/- append of whatever there is, as one operation. No condition of its own. -/
namespace Go.Proofs.Ythehcbbdkiomnaa
open Go.RowKit Go.Lib

theorem wpAppA {P : Program} {w : World} {o : Oper} {a : Act} {K : Act → World → Prop} {Q : Exit → Act → World → Prop} (s x : Operand) (t : TypeId)
    (ho : o.op = .call { callee := .builtin .append, args := #[s, x], argTypes := #[t, t] })
    (base : Nat) (e : TypeId) (z : Value) (size bytes : Nat) (ht : P.underlying t = some (.slice e)) (hi : (P.info? e).map (fun i => (i.zero, i.size, i.bytes)) = some (some z, size, bytes)) (hzs : z.cells.size = size) (hsz : 0 < size)
    (v : Value) (n : Nat) (xs : List Value) (hs : a.eval s = v) (hown : w.ownsRow base e size v n xs)
    (A : Option Addr) (m c : Nat) (news : List Value) (hx : a.eval x = .slice A m c) (hl : news.length = m * size) (hnews : Has w A news) (hA : A = none → c = 0) (h1 : ∀ u ∈ news, u.oneCell' = true)
    (h63 : n + m ≤ maxLen) (hbytes : (n + m) * bytes ≤ 140737488355328) (hbase : base ≤ w.heap.size)
    (h' : ∀ a' c' w', w'.ownsRow base e size (.slice a' (n + m) c') (n + m) (xs ++ news) → Below base w w' → w.grownBy w' v.ownBlock → K (a.put o.dst (.slice a' (n + m) c')) w') : o.wp P a w K Q := by
  cases A with
  | some p => exact wpAppO s x t ho base e z size bytes ht hi hzs hsz v n xs hs hown p m c news hx hl hnews h1 h63 hbytes hbase fun a' c' w' g1 _ _ _ g2 g3 => h' a' c' w' g1 g2 g3
  | none =>
    have hn : news = [] := by
      rcases news with _ | ⟨u, us⟩
      · rfl
      · obtain ⟨p, hp, _⟩ := hnews 0 u (by simp)
        cases hp
    subst hn
    have hm : m = 0 := by
      rcases Nat.eq_zero_or_pos m with g | g
      · exact g
      · have := Nat.mul_pos g hsz; simp at hl; omega
    subst hm
    obtain rfl := hA rfl
    obtain ⟨i, hi, hz, hz1, hz2⟩ := info_parts hi
    have hrun := run_append_owned_none (P := P) (w := w) base t o.type e i size ht hi v n xs hown
    obtain ⟨a', c', rfl, k1, k2, k3⟩ := owns_slice hown
    unfold Oper.wp
    simp [execOp, ho, resolve, invoke, builtin, hs, hx, hrun, Result.andThen]
    exact h' a' c' w (by simpa using hown) (Below.refl _ _) (World.grownBy.refl _ _)
end Go.Proofs.Ythehcbbdkiomnaa
end
