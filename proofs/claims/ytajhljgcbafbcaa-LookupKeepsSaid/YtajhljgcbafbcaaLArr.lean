
/- A whole array of sixty numbers: made, stored, loaded as one step each. No condition of its own. -/
import Derived.Deep.WholeRow
import Derived.Test.YtajhljgcbafbcaaLSpeak
namespace Go.Proofs.Ytajhljgcbafbcaa
open Go.RowKit Go.Lib

@[irreducible] def wasA (f : Nat → Int) (k : Nat) : Array Value := ((List.range 60).map fun i => if i < k then Value.int .i64 (f i) else .int .i64 0).toArray
theorem wasA_size (f : Nat → Int) (k : Nat) : (wasA f k).size = 60 := by unfold wasA; simp
theorem wasA_get (f : Nat → Int) (k i : Nat) (h : i < 60) : (wasA f k)[i]? = some (if i < k then Value.int .i64 (f i) else .int .i64 0) := by
  unfold wasA
  simp [List.getElem?_map, List.getElem?_range h]
theorem wasA_set (f : Nat → Int) (k : Nat) (hk : k < 60) : (wasA f k).setIfInBounds k (.int .i64 (f k)) = wasA f (k + 1) := by
  apply Array.ext_getElem?
  intro i
  rw [Array.getElem?_setIfInBounds]
  by_cases h : i < 60
  · rw [wasA_get f (k + 1) i h, wasA_size]
    by_cases hi : k = i
    · subst hi; simp [hk]
    · rw [if_neg hi, wasA_get f k i h]
      by_cases h2 : i < k
      · rw [if_pos h2, if_pos (by omega)]
      · rw [if_neg h2, if_neg (by omega)]
  · by_cases hi : k = i
    · omega
    · rw [if_neg hi, Array.getElem?_eq_none (by rw [wasA_size]; omega), Array.getElem?_eq_none (by rw [wasA_size]; omega)]
theorem wpOpV {P : Program} {w : World} {ops : Array Oper} {rest : List Oper} {o : Oper} {a : Act} {Q : Exit → Act → World → Prop} (hgd : o.guard = none) (v : Value) (w' : World) (hr : (execOp a.eval o).run P w = .ok (.value v) w') (h : wpList P ops Q rest (a.put o.dst v) w') : wpList P ops Q (o :: rest) a w :=
  wpList_plain hgd fun K hK => by
    show o.upon P a K Q ((execOp a.eval o).run P w)
    rw [hr]
    exact hK _ _ h
theorem wpOpU {P : Program} {w : World} {ops : Array Oper} {rest : List Oper} {o : Oper} {a : Act} {Q : Exit → Act → World → Prop} (hgd : o.guard = none) (w' : World) (hr : (execOp a.eval o).run P w = .ok .skip w') (h : wpList P ops Q rest (a.put o.dst undef) w') : wpList P ops Q (o :: rest) a w :=
  wpList_plain hgd fun K hK => by
    show o.upon P a K Q ((execOp a.eval o).run P w)
    rw [hr]
    exact hK _ _ h
def zs60 : Array Value := Array.replicate 60 (.int .i64 0)
theorem was_zero (f : Nat → Int) : zs60 = wasA f 0 := by
  apply Array.ext_getElem?
  intro i
  by_cases h : i < 60
  · rw [wasA_get f 0 i h]; simp [zs60, h]
  · rw [Array.getElem?_eq_none (by simp [zs60]; omega), Array.getElem?_eq_none (by rw [wasA_size]; omega)]
theorem run_build60 (w : World) : (Instr.build 47 #[]).run Try.prog w = .ok (.agg zs60) w := by kernel_rfl
theorem run_alloc60 (w : World) : (Instr.alloc 47 true (.tuple #[])).run Try.prog w = .ok (.pointer (some ⟨w.heap.size, 0, none⟩)) (w.alloc (.cells zs60 47)) := by kernel_rfl
theorem info60 : (Try.prog.info? 47).map (·.size) = some 60 := by kernel_rfl
theorem run_store60 (w : World) (f : Nat → Int) (k : Nat) : (Instr.storeAt 47 (.pointer (some ⟨w.heap.size, 0, none⟩)) (.agg (wasA f k))).run Try.prog (w.alloc (.cells zs60 47)) = .ok () (w.alloc (.cells (wasA f k) 47)) :=
  run_storeAt_new w _ _ _ (by rw [wasA_size]; exact info60) (by rw [wasA_size]; simp [zs60]) (by rw [Array.all_eq_true]; intro i hi; rw [wasA_size] at hi; have := wasA_get f k i hi; rw [Array.getElem?_eq_getElem (by rw [wasA_size]; exact hi)] at this; injection this with this; rw [this]; split <;> rfl)
theorem wpBuild60 {w : World} {ops : Array Oper} {rest : List Oper} {o : Oper} {a : Act} {Q : Exit → Act → World → Prop} (hgd : o.guard = none) (ho : o.op = .build 47 #[]) (f : Nat → Int)
    (h : wpList Try.prog ops Q rest (a.put o.dst (.agg (wasA f 0))) w) : wpList Try.prog ops Q (o :: rest) a w :=
  wpOpV hgd (.agg (wasA f 0)) w (by rw [← was_zero]; unfold execOp; rw [ho]; simp only [Array.map_empty, Sem.run_bind, Sem.run_pure, Sem.run_map, run_build60, Result.andThen]) h
theorem wpAlloc60 {w : World} {ops : Array Oper} {rest : List Oper} {o : Oper} {a : Act} {Q : Exit → Act → World → Prop} (hgd : o.guard = none) (ho : o.op = .alloc 47)
    (h : wpList Try.prog ops Q rest (a.put o.dst (.pointer (some ⟨w.heap.size, 0, none⟩))) (w.alloc (.cells zs60 47))) : wpList Try.prog ops Q (o :: rest) a w :=
  wpOpV hgd (.pointer (some ⟨w.heap.size, 0, none⟩)) (w.alloc (.cells zs60 47)) (by unfold execOp; rw [ho]; simp only [Sem.run_bind, Sem.run_pure, Sem.run_map, run_alloc60, Result.andThen]) h
theorem wpStore60 {w : World} {ops : Array Oper} {rest : List Oper} {o : Oper} {a : Act} {Q : Exit → Act → World → Prop} (hgd : o.guard = none) (p x : Operand) (ho : o.op = .store 47 p x) (f : Nat → Int) (k : Nat) (hp : a.eval p = .pointer (some ⟨w.heap.size, 0, none⟩)) (hx : a.eval x = .agg (wasA f k))
    (h : wpList Try.prog ops Q rest (a.put o.dst undef) (w.alloc (.cells (wasA f k) 47))) : wpList Try.prog ops Q (o :: rest) a (w.alloc (.cells zs60 47)) :=
  wpOpU hgd (w.alloc (.cells (wasA f k) 47)) (by unfold execOp; rw [ho]; simp only [hp, hx, Sem.run_bind, Sem.run_pure, Sem.run_map, run_store60, Result.andThen]) h
theorem wpLoad60 {w : World} {ops : Array Oper} {rest : List Oper} {o : Oper} {a : Act} {Q : Exit → Act → World → Prop} (hgd : o.guard = none) (p : Operand) (ho : o.op = .load 47 p) (g : Nat) (c : Array Value) (fz : Nat × Nat) (hp : a.eval p = .pointer (some ⟨g, 0, none⟩)) (hg : w.heap[g]? = some (.cells c 47 fz)) (hs : c.size = 60)
    (h : wpList Try.prog ops Q rest (a.put o.dst (.agg c)) w) : wpList Try.prog ops Q (o :: rest) a w :=
  wpOpV hgd (.agg c) w (by
    have hu : Try.prog.underlying 47 = some (.array 60 3) := by kernel_rfl
    have := run_loadVar_row w g 47 47 c fz _ hg hu rfl (by rw [hs]; exact info60)
    unfold execOp; rw [ho]
    simp only [hp, Instr.loadAt, Instr.sureAddr, Sem.run_bind, Sem.run_pure, Sem.run_map, Result.andThen, this]) h
theorem run_index60 (c : Array Value) (k : Nat) (z : Int) (hv : c[k]? = some (.int .i64 z)) (hk : k < 60) (w : World) : (Instr.index 47 (.agg c) (.int .i64 (k : Nat))).run Try.prog w = .ok (.int .i64 z) w := by
  have hu : Try.prog.underlying 47 = some (.array 60 3) := by kernel_rfl
  have hk1 : 0 ≤ (k : Int) ∧ (k : Int) < 60 := by omega
  simp [Instr.index, run_underlying hu, asIntOf, hk, go_sem, hv]
end Go.Proofs.Ytajhljgcbafbcaa
