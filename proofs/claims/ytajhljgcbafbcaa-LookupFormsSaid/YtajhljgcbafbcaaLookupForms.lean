
/- LookupForms returns true for every row of pairs and every number, and changes nothing: the same numbers of the same glyphs, told by parts, one by one, or in a row, are the same. No condition beside the row's own. -/
import Derived.Test.YtajhljgcbafbcaaLFormsLaw
import Derived.Test.YtajhljgcbafbcaaFrame
namespace Go.Proofs.Ytajhljgcbafbcaa
open Go.ChangeShapes Go.WideShapes Go.ChangeAt Go.RowKit
open Go.ChangeMaps (open_string shut_string)

set_option maxRecDepth 100000 in
theorem lookupForms_walks (H : Type) (enc : TypeId × Value → H) : Walks H enc 4 [39, 3] := by
  intro W base args ds p hval hA _
  obtain ⟨v0, vs0, d0, ds0, p0, q0, hargs, rfl, rfl, h0, r0⟩ := trodAll_cons hA
  obtain ⟨v1, vs1, d1, ds1, p1, q1, rfl, rfl, rfl, h1, r1⟩ := trodAll_cons r0
  obtain ⟨rfl, rfl, rfl⟩ := trodAll_nil r1
  obtain rfl : args = #[v0, v1] := by cases args; simp_all
  obtain ⟨a0, n0, c0, x0, rfl, f0, g0, j0, k0, e0, o0⟩ := open_pairs Try.underlying39 Try.underlying43 (by kernel_rfl) (by kernel_rfl) rfl rfl (by kernel_rfl) (by kernel_rfl) (by kernel_rfl) (hval 0 39 v0 rfl rfl) h0
  obtain ⟨z1, rfl, t1⟩ := open_int Try.underlying3 (hval 1 3 v1 rfl rfl) h1
  exact lookupForms_walk a0 n0 c0 x0 z1 W e0 f0 g0 j0 o0 (wf_i64 t1)

set_option maxRecDepth 100000 in
theorem lookupForms_lifted (os : Os) (started : os.Started) (H : Type) (enc : TypeId × Value → H) :
    ReturnsInHanded {} Try.checked os 4 .any (Rows.lookupFormsSpec.pre6 enc Try.prog Try.f4 Rows.lookupFormsRow.domain false) (Rows.lookupFormsSpec.post enc Try.prog Try.f4 false true false false) :=
  lift_law (s := Rows.lookupFormsSpec) (fn := Try.f4) started (by kernel_rfl) Try.func4
    (ChangeSpec.witness6 (enc := enc) (C := Try.checked) false ⟨#[], #[.slice none 0 0, .int .i64 0], []⟩ 8 (by kernel_rfl) (by kernel_rfl) (by kernel_rfl) (by kernel_rfl))
    rfl rfl (fun ds h => by match ds, h with | [d0, d1], _ => rfl) (by intro t ht; simp [Try.params4] at ht; first | (subst ht; exact ⟨by kernel_rfl, of_decide_eq_true (by kernel_rfl)⟩) | (obtain rfl | rfl := ht <;> exact ⟨by kernel_rfl, of_decide_eq_true (by kernel_rfl)⟩) | (obtain rfl | rfl | rfl := ht <;> exact ⟨by kernel_rfl, of_decide_eq_true (by kernel_rfl)⟩) | (obtain rfl | rfl | rfl | rfl := ht <;> exact ⟨by kernel_rfl, of_decide_eq_true (by kernel_rfl)⟩))
    (by rw [Try.params4]; exact lookupForms_walks H enc)
theorem lookupForms_over : Rows.lookupFormsRow.holds Try.pinned (OpenSpec.ofChange Rows.lookupFormsSpec) :=
  OpenClaim.holds_of_wide 4 Try.f4 rfl rfl rfl rfl rfl rfl rfl ⟨rfl, rfl, rfl, rfl, rfl⟩ rfl rfl rfl rfl rfl (by kernel_rfl) Try.func4 (by kernel_rfl)
    (of_decide_eq_true (by kernel_rfl)) (by unfold Func.isWrapper; first | (rw [if_pos (by decide +kernel)]; kernel_rfl) | (rw [if_neg (by decide +kernel)]; exact ⟨rfl, rfl⟩))
    (fun os started H enc _ => lookupForms_lifted os started H enc)
theorem lookupForms_proved : Rows.LookupFormsSaid := lookupForms_over
#print axioms lookupForms_proved
end Go.Proofs.Ytajhljgcbafbcaa
