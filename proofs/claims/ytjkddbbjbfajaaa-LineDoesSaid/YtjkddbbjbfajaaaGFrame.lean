
/- What an argument of glyphs, and one of numbers, is. No condition. -/
import Derived.Test.YtjkddbbjbfajaaaGNew
import Derived.Test.YtjkddbbjbfajaaaFrame
import Derived.ChangeSame
import Derived.Deep.Strs
namespace Go.Proofs.Ytjkddbbjbfajaaa
open Go.ChangeShapes Go.WideShapes Go.ChangeAt Go.RowKit

section
variable {H : Type} {enc : TypeId × Value → H}
theorem open_glyphs0 {P : Program} {W : World} {base : Nat} {t e : TypeId} {f0 f1 : Field} {v : Value} {d : DataW H} {p : List MemPlace} (ht : P.underlying t = some (.slice e)) (he : P.underlying e = some (.struct #[f0, f1]))
    (h0 : P.underlying f0.type = some (.int .i64)) (h1 : P.underlying f1.type = some (.int .i64)) (o0 : f0.offset = 0) (o1 : f1.offset = 1) (c0 : P.cellsOf f0.type = 1) (c1 : P.cellsOf f1.type = 1) (ce : P.cellsOf e = 2)
    (hv : Value.okWide P W .any base t v) (h : DataW.Trod enc P W 0 (fun _ => true) true t v d p) :
    ∃ (a : Option Addr) (n c : Nat) (zs : List (Int × Int)), v = .slice a n c ∧ zs.length = n ∧ n ≤ c ∧ c ≤ maxLen ∧ (a = none → c = 0) ∧ Has W a (gv zs) := by
  obtain ⟨a, n, c, us, rfl, hl, hn, hc, hA, hh, hx⟩ := open_rows ht hv h
  have key : ∀ us : List (List Value), (∀ x ∈ us, x.length = P.cellsOf e ∧ ∃ m y, DataW.trod enc P W 0 (fun _ => true) true m e x = some y) → ∃ zs : List (Int × Int), zs.length = us.length ∧ us.flatten = gv zs := by
    intro us
    induction us with
    | nil => exact fun _ => ⟨[], rfl, rfl⟩
    | cons x us ih =>
      intro h
      obtain ⟨zs, q1, q2⟩ := ih (fun y hy => h y (by simp [hy]))
      obtain ⟨hlx, m, y, hy⟩ := h x (by simp)
      obtain ⟨y0, y1, k, _, _, t0, t1⟩ := Go.ChangeShapes.trod_struct2 he hy
      rw [o0, c0] at t0
      rw [o1, c1] at t1
      obtain ⟨z0, e0, _, w0⟩ := DataW.trod_int h0 t0
      obtain ⟨z1, e1, _, w1⟩ := DataW.trod_int h1 t1
      rw [ce] at hlx
      have hxe : x = [.int .i64 z0, .int .i64 z1] := by
        match x, hlx with
        | [x0, x1], _ =>
          simp at e0 e1
          rw [e0, e1]
      exact ⟨(z0, z1) :: zs, by simp [q1], by rw [List.flatten_cons, hxe, q2]; rfl⟩
  obtain ⟨zs, q1, q2⟩ := key us hx
  exact ⟨a, n, c, zs, rfl, q1.trans hl, hn, hc, hA, q2 ▸ hh⟩
theorem open_glyphs {W : World} {base : Nat} {v : Value} {d : DataW H} {p : List MemPlace} (hv : Value.okWide Try.prog W .any base 28 v) (h : DataW.Trod enc Try.prog W 0 (fun _ => true) true 28 v d p) :
    ∃ (a : Option Addr) (n c : Nat) (zs : List (Int × Int)), v = .slice a n c ∧ zs.length = n ∧ n ≤ c ∧ c ≤ maxLen ∧ (a = none → c = 0) ∧ Has W a (gv zs) :=
  open_glyphs0 Try.underlying28 Try.underlying38 (by kernel_rfl) (by kernel_rfl) rfl rfl (by kernel_rfl) (by kernel_rfl) (by kernel_rfl) hv h
theorem open_ids {W : World} {base : Nat} {v : Value} {d : DataW H} {p : List MemPlace} (hv : Value.okWide Try.prog W .any base 22 v) (h : DataW.Trod enc Try.prog W 0 (fun _ => true) true 22 v d p) :
    ∃ (a : Option Addr) (n c : Nat) (zs : List Int), v = .slice a n c ∧ zs.length = n ∧ n ≤ c ∧ c ≤ maxLen ∧ (a = none → c = 0) ∧ Has W a (iv zs) ∧ ∀ z ∈ zs, -9223372036854775808 ≤ z ∧ z ≤ 9223372036854775807 := by
  obtain ⟨a, n, c, zs, h1, h2, h3, h4, h5, h6, h7⟩ := open_nums Try.underlying22 Try.underlying3 hv h
  exact ⟨a, n, c, zs, h1, h2, h3, h4, h5, h6, fun z hz => wf_i64 (h7 z hz)⟩
/-- A change as an argument: what it does, where, and by which numbers. -/
structure OpA where
  k : Int
  z : Int
  a : Option Addr
  c : Nat
  ids : List Int
def OpA.v (o : OpA) : List Value := [.int .i64 o.k, .int .i64 o.z, .slice o.a o.ids.length o.c]
theorem open_idsC {W : World} {f : Nat} {v : Value} {y : DataW H × List MemPlace} (h : DataW.trod enc Try.prog W 0 (fun _ => true) true f 22 [v] = some y) :
    ∃ (a : Option Addr) (c : Nat) (zs : List Int), v = .slice a zs.length c ∧ Has W a (iv zs) := by
  obtain ⟨a, n, c, us, rfl, hl, _, _, _, hh, hx⟩ := open_rows_cell Try.underlying22 h
  have key : ∀ us : List (List Value), (∀ x ∈ us, x.length = Try.prog.cellsOf 3 ∧ ∃ m y, DataW.trod enc Try.prog W 0 (fun _ => true) true m 3 x = some y) → ∃ zs : List Int, zs.length = us.length ∧ us.flatten = iv zs := by
    intro us
    induction us with
    | nil => exact fun _ => ⟨[], rfl, rfl⟩
    | cons x us ih =>
      intro h
      obtain ⟨zs, q1, q2⟩ := ih (fun y hy => h y (by simp [hy]))
      obtain ⟨_, m, y, hy⟩ := h x (by simp)
      obtain ⟨z, rfl, _, _⟩ := DataW.trod_int Try.underlying3 hy
      exact ⟨z :: zs, by simp [q1], by rw [List.flatten_cons, q2]; rfl⟩
  obtain ⟨zs, q1, q2⟩ := key us hx
  exact ⟨a, c, zs, by rw [q1, hl], q2 ▸ hh⟩
set_option maxRecDepth 100000 in
theorem open_ops {W : World} {base : Nat} {v : Value} {d : DataW H} {p : List MemPlace} (hv : Value.okWide Try.prog W .any base 23 v) (h : DataW.Trod enc Try.prog W 0 (fun _ => true) true 23 v d p) :
    ∃ (a : Option Addr) (n c : Nat) (os : List OpA), v = .slice a n c ∧ os.length = n ∧ Has W a (os.flatMap OpA.v) ∧ ∀ o ∈ os, Has W o.a (iv o.ids) ∧ -9223372036854775808 ≤ o.z ∧ o.z ≤ 9223372036854775807 := by
  obtain ⟨a, n, c, us, rfl, hl, _, _, _, hh, hx⟩ := open_rows Try.underlying23 hv h
  have key : ∀ us : List (List Value), (∀ x ∈ us, x.length = Try.prog.cellsOf 31 ∧ ∃ m y, DataW.trod enc Try.prog W 0 (fun _ => true) true m 31 x = some y) → ∃ os : List OpA, os.length = us.length ∧ us.flatten = os.flatMap OpA.v ∧ ∀ o ∈ os, Has W o.a (iv o.ids) ∧ -9223372036854775808 ≤ o.z ∧ o.z ≤ 9223372036854775807 := by
    intro us
    induction us with
    | nil => exact fun _ => ⟨[], rfl, rfl, fun o ho => by cases ho⟩
    | cons x us ih =>
      intro h
      obtain ⟨os, q1, q2, q3⟩ := ih (fun y hy => h y (by simp [hy]))
      obtain ⟨hlx, m, y, hy⟩ := h x (by simp)
      obtain ⟨y0, y1, y2, k, _, _, t0, t1, t2⟩ := Go.Deep.trod_struct3 Try.underlying31 hy
      have ce : Try.prog.cellsOf 31 = 3 := by kernel_rfl
      have c0 : Try.prog.cellsOf 3 = 1 := by kernel_rfl
      have c1 : Try.prog.cellsOf 22 = 1 := by kernel_rfl
      rw [ce] at hlx
      simp only [c0, c1] at t0 t1 t2
      match x, hlx with
      | [x0, x1, x2], _ =>
        simp only [List.drop_zero, List.drop_succ_cons, List.take_succ_cons, List.take_zero] at t0 t1 t2
        obtain ⟨z0, e0, _, w0⟩ := DataW.trod_int Try.underlying3 t0
        obtain ⟨z1, e1, _, w1⟩ := DataW.trod_int Try.underlying3 t1
        obtain ⟨ai, ci, zs, e2, hz⟩ := open_idsC t2
        simp only [List.cons.injEq, and_true] at e0 e1
        subst e0 e1 e2
        exact ⟨⟨z0, z1, ai, ci, zs⟩ :: os, by simp [q1], by rw [List.flatten_cons, q2]; rfl, fun o ho => by
          rcases List.mem_cons.1 ho with rfl | ho
          · exact ⟨hz, wf_i64 w1⟩
          · exact q3 o ho⟩
  obtain ⟨os, q1, q2, q3⟩ := key us hx
  exact ⟨a, n, c, os, rfl, q1.trans hl, q2 ▸ hh, q3⟩
end
end Go.Proofs.Ytjkddbbjbfajaaa
