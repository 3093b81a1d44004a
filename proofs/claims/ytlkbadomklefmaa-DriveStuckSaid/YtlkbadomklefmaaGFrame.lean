
/- What an argument of glyphs, and one of numbers, is. No condition. -/
import Derived.Test.YtlkbadomklefmaaGNew
import Derived.Test.YtlkbadomklefmaaFrame
import Derived.ChangeSame
import Derived.Deep.Strs
namespace Go.Proofs.Ytlkbadomklefmaa
open Go.ChangeShapes Go.WideShapes Go.ChangeAt Go.RowKit

section
variable {H : Type} {enc : TypeId × Value → H}
theorem open_glyphs0 {P : Program} {W : World} {base : Nat} {t e : TypeId} {f0 f1 : Field} {v : Value} {d : DataW H} {p : List MemPlace} (ht : P.underlying t = some (.slice e)) (he : P.underlying e = some (.struct #[f0, f1]))
    (h0 : P.underlying f0.type = some (.int .i64)) (h1 : P.underlying f1.type = some (.int .i64)) (o0 : f0.offset = 0) (o1 : f1.offset = 1) (c0 : P.cellsOf f0.type = 1) (c1 : P.cellsOf f1.type = 1) (ce : P.cellsOf e = 2)
    (hv : Value.okWide P W .any base t v) (h : DataW.Trod enc P W 0 (fun _ => true) true t v d p) :
    ∃ (a : Option Addr) (n c : Nat) (zs : List (Int × Int)), v = .slice a n c ∧ zs.length = n ∧ n ≤ c ∧ c ≤ maxLen ∧ (a = none → c = 0) ∧ Has W a (gv zs) := by
  obtain ⟨a, n, c, us, rfl, hl, hn, hc, hA, hh, hx⟩ := open_rows ht hv h
  have key : ∀ us : List (List Value), (∀ x ∈ us, x.length = P.cellsOf e ∧ ∃ m y, DataW.trod enc P W 0 (fun _ => true) true m e x = some y) → ∃ zs : List (Int × Int), zs.length = us.length ∧ us.flatten = gv zs := by
    intro us
    induction us with
    | nil => exact fun _ => ⟨[], rfl, rfl⟩
    | cons x us ih =>
      intro h
      obtain ⟨zs, q1, q2⟩ := ih (fun y hy => h y (by simp [hy]))
      obtain ⟨hlx, m, y, hy⟩ := h x (by simp)
      obtain ⟨y0, y1, k, _, _, t0, t1⟩ := Go.ChangeShapes.trod_struct2 he hy
      rw [o0, c0] at t0
      rw [o1, c1] at t1
      obtain ⟨z0, e0, _, w0⟩ := DataW.trod_int h0 t0
      obtain ⟨z1, e1, _, w1⟩ := DataW.trod_int h1 t1
      rw [ce] at hlx
      have hxe : x = [.int .i64 z0, .int .i64 z1] := by
        match x, hlx with
        | [x0, x1], _ =>
          simp at e0 e1
          rw [e0, e1]
      exact ⟨(z0, z1) :: zs, by simp [q1], by rw [List.flatten_cons, hxe, q2]; rfl⟩
  obtain ⟨zs, q1, q2⟩ := key us hx
  exact ⟨a, n, c, zs, rfl, q1.trans hl, hn, hc, hA, q2 ▸ hh⟩
set_option maxRecDepth 100000 in
theorem open_glyphs {W : World} {base : Nat} {v : Value} {d : DataW H} {p : List MemPlace} (hv : Value.okWide Try.prog W .any base 87 v) (h : DataW.Trod enc Try.prog W 0 (fun _ => true) true 87 v d p) :
    ∃ (a : Option Addr) (n c : Nat) (zs : List (Int × Int)), v = .slice a n c ∧ zs.length = n ∧ n ≤ c ∧ c ≤ maxLen ∧ (a = none → c = 0) ∧ Has W a (gv zs) :=
  open_glyphs0 Try.underlying87 Try.underlying89 (by kernel_rfl) (by kernel_rfl) rfl rfl (by kernel_rfl) (by kernel_rfl) (by kernel_rfl) hv h
set_option maxRecDepth 100000 in
theorem open_ids {W : World} {base : Nat} {v : Value} {d : DataW H} {p : List MemPlace} (hv : Value.okWide Try.prog W .any base 51 v) (h : DataW.Trod enc Try.prog W 0 (fun _ => true) true 51 v d p) :
    ∃ (a : Option Addr) (n c : Nat) (zs : List Int), v = .slice a n c ∧ zs.length = n ∧ n ≤ c ∧ c ≤ maxLen ∧ (a = none → c = 0) ∧ Has W a (iv zs) ∧ ∀ z ∈ zs, -9223372036854775808 ≤ z ∧ z ≤ 9223372036854775807 := by
  obtain ⟨a, n, c, zs, h1, h2, h3, h4, h5, h6, h7⟩ := open_nums Try.underlying51 Try.underlying3 hv h
  exact ⟨a, n, c, zs, h1, h2, h3, h4, h5, h6, fun z hz => wf_i64 (h7 z hz)⟩
/-- A change as an argument: what it does, where, and by which numbers. -/
structure OpA where
  k : Int
  z : Int
  a : Option Addr
  c : Nat
  ids : List Int
def OpA.v (o : OpA) : List Value := [.int .i64 o.k, .int .i64 o.z, .slice o.a o.ids.length o.c]
set_option maxRecDepth 100000 in
theorem open_idsC {W : World} {f : Nat} {v : Value} {y : DataW H × List MemPlace} (h : DataW.trod enc Try.prog W 0 (fun _ => true) true f 51 [v] = some y) :
    ∃ (a : Option Addr) (c : Nat) (zs : List Int), v = .slice a zs.length c ∧ Has W a (iv zs) := by
  obtain ⟨a, n, c, us, rfl, hl, _, _, _, hh, hx⟩ := open_rows_cell Try.underlying51 h
  have key : ∀ us : List (List Value), (∀ x ∈ us, x.length = Try.prog.cellsOf 3 ∧ ∃ m y, DataW.trod enc Try.prog W 0 (fun _ => true) true m 3 x = some y) → ∃ zs : List Int, zs.length = us.length ∧ us.flatten = iv zs := by
    intro us
    induction us with
    | nil => exact fun _ => ⟨[], rfl, rfl⟩
    | cons x us ih =>
      intro h
      obtain ⟨zs, q1, q2⟩ := ih (fun y hy => h y (by simp [hy]))
      obtain ⟨_, m, y, hy⟩ := h x (by simp)
      obtain ⟨z, rfl, _, _⟩ := DataW.trod_int Try.underlying3 hy
      exact ⟨z :: zs, by simp [q1], by rw [List.flatten_cons, q2]; rfl⟩
  obtain ⟨zs, q1, q2⟩ := key us hx
  exact ⟨a, c, zs, by rw [q1, hl], q2 ▸ hh⟩
end
end Go.Proofs.Ytlkbadomklefmaa
