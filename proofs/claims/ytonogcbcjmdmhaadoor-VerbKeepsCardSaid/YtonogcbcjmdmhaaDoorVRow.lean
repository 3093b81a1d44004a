
/- Rows of numbers that a call makes: append, make. Conditions: sizes. -/
import Derived.Test.YtonogcbcjmdmhaaDoorIV
import Derived.Test.YtonogcbcjmdmhaaDoorZed
import Derived.Test.YtonogcbcjmdmhaaDoorKeptE
namespace Go.Proofs.YtonogcbcjmdmhaaDoor
open Go.RowKit Go.Lib

theorem info_int : (Tryd.prog.info? 3).map (fun i => (i.zero, i.size, i.bytes)) = some (some (.int .i64 0), 1, 8) := by kernel_rfl
def IRow (B : Nat) (l : List Int) (v : Value) (w : World) : Prop := ∃ a c, v = .slice a l.length c ∧ w.ownsRow B 3 1 (.slice a l.length c) l.length (iv l)
theorem IRow.below {B : Nat} {l : List Int} {v : Value} {w w' : World} (h : IRow B l v w) (hb : Below w.heap.size w w') : IRow B l v w' := by
  obtain ⟨a, c, h1, h2⟩ := h
  exact ⟨a, c, h1, owns_below h2 hb (Nat.le_refl _)⟩
theorem IRow.mono {B B' : Nat} {l : List Int} {v : Value} {w : World} (h : IRow B l v w) (hb : B' ≤ B) : IRow B' l v w := by
  obtain ⟨a, c, h1, h2⟩ := h
  exact ⟨a, c, h1, owns_mono h2 hb⟩
theorem IRow.has {B : Nat} {l : List Int} {a : Option Addr} {n c : Nat} {w : World} (h : IRow B l (.slice a n c) w) : Has w a (iv l) := by
  obtain ⟨a', c', h1, h2⟩ := h
  injection h1 with e1 e2 e3
  subst e1
  exact has_of_owns h2
/-- Another kind's block stays apart. -/
theorem IRow.other {B : Nat} {l : List Int} {v : Value} {w w' : World} (h : IRow B l v w) (hb : Below B w w') (hk : ∀ g, v.ownBlock = some g → w'.heap[g]? = w.heap[g]?) : IRow B l v w' := by
  obtain ⟨a, c, rfl, h2⟩ := h
  refine ⟨a, c, rfl, h2.1, ?_⟩
  rcases h2.2 with g | ⟨g, cap, cur, hv, hg, hh, r⟩
  · exact .inl g
  · exact .inr ⟨g, cap, cur, hv, hg, (hk g (by rw [hv]; rfl)).trans hh, r⟩
theorem IRow.lit (w : World) (l : List Int) (B : Nat) (hB : B ≤ w.heap.size) (hl : l.length ≤ maxLen) (cs : Array Value) (hc : cs.toList = iv l) : IRow B l (.slice (some ⟨w.heap.size, 0, none⟩) l.length l.length) (w.alloc (.cells cs 3)) := by
  refine ⟨_, _, rfl, ?_⟩
  have := World.ownsRow_lit (e := 3) (size := 1) w cs l.length hB hl (by rw [← Array.length_toList, hc, iv_length, Nat.mul_one])
  rwa [hc] at this
/-- 'append' of some numbers. -/
theorem wpAppI {w : World} {ops : Array Oper} {rest : List Oper} {o : Oper} {a : Act} {Q : Exit → Act → World → Prop} (hgd : o.guard = none) (s x : Operand)
    (ho : o.op = .call { callee := .builtin .append, args := #[s, x], argTypes := #[23, 23] }) (B : Nat) (v : Value) (l m : List Int) (hs : a.eval s = v) (hown : IRow B l v w)
    (A : Option Addr) (k c : Nat) (hx : a.eval x = .slice A k c) (hk : m.length = k) (hh : Has w A (iv m)) (hA : A = none → c = 0) (hsz : l.length + k ≤ 1000000000) (hB : B ≤ w.heap.size)
    (h' : ∀ v' w', IRow B (l ++ m) v' w' → Below B w w' → w.grownBy w' v.ownBlock → wpList Tryd.prog ops Q rest (a.put o.dst v') w') : wpList Tryd.prog ops Q (o :: rest) a w := by
  obtain ⟨a0, c0, rfl, ho0⟩ := hown
  refine wpApp hgd s x 23 ho B 3 (.int .i64 0) 1 8 Tryd.underlying23 info_int rfl (by decide) _ l.length (iv l) hs ho0 A k c (iv m) hx (by rw [iv_length, hk, Nat.mul_one]) hh hA (iv_one m) (by unfold maxLen; omega) (by omega) hB ?_
  intro a1 c1 w1 hown k1 k2 k3 hb1 hg1
  refine h' _ w1 ⟨a1, c1, by rw [List.length_append, hk], ?_⟩ hb1 hg1
  rw [iv_append, List.length_append, hk]
  exact hown
/-- 'make' of room for so many numbers. -/
theorem wpMakeI {w : World} {ops : Array Oper} {rest : List Oper} {o : Oper} {a : Act} {Q : Exit → Act → World → Prop}
    (hg : o.guard = none) (l c : Operand) (hop : o.op = Op.makeSlice 23 l c) (n : Nat) (hl : a.eval l = .int .i64 0) (hc : a.eval c = .int .i64 (n : Int)) (hn : n ≤ 1000000000)
    (hK : ∀ v w', IRow w.heap.size [] v w' → Below w.heap.size w w' → wpList Tryd.prog ops Q rest (a.put o.dst v) w') : wpList Tryd.prog ops Q (o :: rest) a w := by
  obtain ⟨i, hi, hz, hz1, hz2⟩ := info_parts info_int
  refine wpList_make_own w hg l c 23 hop w.heap.size 3 i _ 1 Tryd.underlying23 hi hz hz1 .i64 .i64 _ n hl hc rfl (by rw [hz2]; omega) (by unfold maxLen; omega) (Nat.le_refl _) ?_
  intro w' h1 h2
  exact hK _ w' ⟨_, n, rfl, h1⟩ ((Below.refl _ w).grown h2 (Nat.le_refl _) (fun k hk => by cases hk))
end Go.Proofs.YtonogcbcjmdmhaaDoor
