/- Joined from: PrOpen. -/
import Derived.Test.YtbicnkopmamnpaaJ15
import Derived.Test.YtbicnkopmamnpaaJ01
import Derived.Deep.Strs
section

/- What an argument that is a List of pairs is. No condition. -/
namespace Go.Proofs.Ytbicnkopmamnpaa
open Go.RowKit Go.Lib

set_option maxRecDepth 100000 in
theorem open_pairs {H : Type} {enc : TypeId × Value → H} {W : World} {base : Nat} {v : Value} {d : DataW H} {p : List MemPlace} (hv : Value.okWide Try.prog W .any base 110 v) (h : DataW.Trod enc Try.prog W 0 (fun _ => true) true 110 v d p) :
    ∃ (a : Option Addr) (n c : Nat) (l : List PrT), v = .slice a n c ∧ l.length = n ∧ Has W a (prV l) ∧ ∀ p ∈ l, PrT.ok p := by
  obtain ⟨a, n, c, us, rfl, hl, _, _, _, hh, hx⟩ := open_rows Try.underlying110 hv h
  have key : ∀ us : List (List Value), (∀ x ∈ us, x.length = Try.prog.cellsOf 114 ∧ ∃ m y, DataW.trod enc Try.prog W 0 (fun _ => true) true m 114 x = some y) → ∃ l : List PrT, l.length = us.length ∧ us.flatten = prV l ∧ ∀ p ∈ l, PrT.ok p := by
    intro us
    induction us with
    | nil => exact fun _ => ⟨[], rfl, rfl, fun p h => by cases h⟩
    | cons x us ih =>
      intro h
      obtain ⟨l, q1, q2, q3⟩ := ih (fun y hy => h y (by simp [hy]))
      obtain ⟨hlx, m, y, hy⟩ := h x (by simp)
      obtain ⟨y0, y1, y2, k, _, _, t0, t1, t2⟩ := Go.Deep.trod_struct3 Try.underlying114 hy
      have ce : Try.prog.cellsOf 114 = 3 := by kernel_rfl
      have c0 : Try.prog.cellsOf 111 = 1 := by kernel_rfl
      have c1 : Try.prog.cellsOf 112 = 1 := by kernel_rfl
      rw [ce] at hlx
      simp only [c0, c1] at t0 t1 t2
      match x, hlx with
      | [x0, x1, x2], _ =>
        simp only [List.drop_zero, List.drop_succ_cons, List.take_succ_cons, List.take_zero] at t0 t1 t2
        obtain ⟨z0, e0, _, w0⟩ := DataW.trod_int Try.underlying111 t0
        obtain ⟨z1, e1, _, w1⟩ := DataW.trod_int Try.underlying111 t1
        obtain ⟨z2, e2, _, w2⟩ := DataW.trod_int Try.underlying112 t2
        simp only [List.cons.injEq, and_true] at e0 e1 e2
        subst e0 e1 e2
        obtain ⟨k0, rfl, b0⟩ := wf_u16 w0
        obtain ⟨k1, rfl, b1⟩ := wf_u16 w1
        have b2 : -32768 ≤ z2 ∧ z2 ≤ 32767 := by
          simp [Lit.wf, IntKind.min, IntKind.max, IntKind.signed, IntKind.bits] at w2
          omega
        exact ⟨(k0, k1, z2) :: l, by simp [q1], by rw [List.flatten_cons, q2]; rfl, fun p hp => by
          rcases List.mem_cons.1 hp with rfl | hp
          · exact ⟨b0, b1, b2⟩
          · exact q3 p hp⟩
  obtain ⟨l, q1, q2, q3⟩ := key us hx
  exact ⟨a, n, c, l, rfl, q1.trans hl, q2 ▸ hh, q3⟩
end Go.Proofs.Ytbicnkopmamnpaa
end
