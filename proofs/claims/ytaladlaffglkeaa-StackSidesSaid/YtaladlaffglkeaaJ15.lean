/- Joined from: VRow. -/
import Derived.Test.YtaladlaffglkeaaJ13
import Derived.Test.YtaladlaffglkeaaJ01
import Derived.Test.YtaladlaffglkeaaJ04
section

/- Rows of numbers that a call makes: append, make. Conditions: sizes. -/
namespace Go.Proofs.Ytaladlaffglkeaa
open Go.RowKit Go.Lib

theorem info_int : (Try.prog.info? 3).map (fun i => (i.zero, i.size, i.bytes)) = some (some (.int .i64 0), 1, 8) := by kernel_rfl
def IRow (B : Nat) (l : List Int) (v : Value) (w : World) : Prop := ∃ a c, v = .slice a l.length c ∧ w.ownsRow B 3 1 (.slice a l.length c) l.length (iv l)
theorem IRow.below {B : Nat} {l : List Int} {v : Value} {w w' : World} (h : IRow B l v w) (hb : Below w.heap.size w w') : IRow B l v w' := by
  obtain ⟨a, c, h1, h2⟩ := h
  exact ⟨a, c, h1, owns_below h2 hb (Nat.le_refl _)⟩
/-- 'append' of some numbers. -/
theorem wpAppI {w : World} {ops : Array Oper} {rest : List Oper} {o : Oper} {a : Act} {Q : Exit → Act → World → Prop} (hgd : o.guard = none) (s x : Operand)
    (ho : o.op = .call { callee := .builtin .append, args := #[s, x], argTypes := #[23, 23] }) (B : Nat) (v : Value) (l m : List Int) (hs : a.eval s = v) (hown : IRow B l v w)
    (A : Option Addr) (k c : Nat) (hx : a.eval x = .slice A k c) (hk : m.length = k) (hh : Has w A (iv m)) (hA : A = none → c = 0) (hsz : l.length + k ≤ 1000000000) (hB : B ≤ w.heap.size)
    (h' : ∀ v' w', IRow B (l ++ m) v' w' → Below B w w' → w.grownBy w' v.ownBlock → wpList Try.prog ops Q rest (a.put o.dst v') w') : wpList Try.prog ops Q (o :: rest) a w := by
  obtain ⟨a0, c0, rfl, ho0⟩ := hown
  refine wpApp hgd s x 23 ho B 3 (.int .i64 0) 1 8 Try.underlying23 info_int rfl (by decide) _ l.length (iv l) hs ho0 A k c (iv m) hx (by rw [iv_length, hk, Nat.mul_one]) hh hA (iv_one m) (by unfold maxLen; omega) (by omega) hB ?_
  intro a1 c1 w1 hown k1 k2 k3 hb1 hg1
  refine h' _ w1 ⟨a1, c1, by rw [List.length_append, hk], ?_⟩ hb1 hg1
  rw [iv_append, List.length_append, hk]
  exact hown
end Go.Proofs.Ytaladlaffglkeaa
end
