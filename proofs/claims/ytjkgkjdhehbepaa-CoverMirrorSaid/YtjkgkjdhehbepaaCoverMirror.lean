
/- CoverMirror returns true for every word of 32 bits, and changes nothing: what goes from the beginning for Right goes from the end for Left, but in the text's order; who is of all directions runs for each. No condition beside the row's own. -/
import Derived.Test.YtjkgkjdhehbepaaCLaws4
import Derived.Test.YtjkgkjdhehbepaaFrame
namespace Go.Proofs.Ytjkgkjdhehbepaa
open Go.ChangeShapes Go.WideShapes Go.ChangeAt Go.RowKit
open Go.ChangeMaps (open_string shut_string)

set_option maxRecDepth 100000 in
theorem coverMirror_walks (H : Type) (enc : TypeId × Value → H) : Walks H enc 5 [22] := by
  intro W base args ds p hval hA _
  obtain ⟨v0, vs0, d0, ds0, p0, q0, hargs, rfl, rfl, h0, r0⟩ := trodAll_cons hA
  obtain ⟨rfl, rfl, rfl⟩ := trodAll_nil r0
  obtain rfl : args = #[v0] := by cases args; simp_all
  obtain ⟨z0, rfl, t0⟩ := open_int Try.underlying22 (hval 0 22 v0 rfl rfl) h0
  obtain ⟨x0, rfl, o0⟩ := wf_u32 t0
  exact coverMirror_walk x0 W o0

set_option maxRecDepth 100000 in
theorem coverMirror_lifted (os : Os) (started : os.Started) (H : Type) (enc : TypeId × Value → H) :
    ReturnsInHanded {} Try.checked os 5 .any (Rows.coverMirrorSpec.pre6 enc Try.prog Try.f5 Rows.coverMirrorRow.domain false) (Rows.coverMirrorSpec.post enc Try.prog Try.f5 false true false false) :=
  lift_law (s := Rows.coverMirrorSpec) (fn := Try.f5) started (by kernel_rfl) Try.func5
    (ChangeSpec.witness6 (enc := enc) (C := Try.checked) false ⟨#[], #[.int .u32 0], []⟩ 8 (by kernel_rfl) (by kernel_rfl) (by kernel_rfl) (by kernel_rfl))
    rfl rfl (fun ds h => by match ds, h with | [d0], _ => rfl) (by intro t ht; simp [Try.params5] at ht; first | (subst ht; exact ⟨by kernel_rfl, of_decide_eq_true (by kernel_rfl)⟩) | (obtain rfl | rfl := ht <;> exact ⟨by kernel_rfl, of_decide_eq_true (by kernel_rfl)⟩) | (obtain rfl | rfl | rfl := ht <;> exact ⟨by kernel_rfl, of_decide_eq_true (by kernel_rfl)⟩) | (obtain rfl | rfl | rfl | rfl := ht <;> exact ⟨by kernel_rfl, of_decide_eq_true (by kernel_rfl)⟩))
    (by rw [Try.params5]; exact coverMirror_walks H enc)
theorem coverMirror_over : Rows.coverMirrorRow.holds Try.pinned (OpenSpec.ofChange Rows.coverMirrorSpec) :=
  OpenClaim.holds_of_wide 5 Try.f5 rfl rfl rfl rfl rfl rfl rfl ⟨rfl, rfl, rfl, rfl, rfl⟩ rfl rfl rfl rfl rfl (by kernel_rfl) Try.func5 (by kernel_rfl)
    (of_decide_eq_true (by kernel_rfl)) (by unfold Func.isWrapper; first | (rw [if_pos (by decide +kernel)]; kernel_rfl) | (rw [if_neg (by decide +kernel)]; exact ⟨rfl, rfl⟩))
    (fun os started H enc _ => coverMirror_lifted os started H enc)
theorem coverMirror_proved : Rows.CoverMirrorSaid := coverMirror_over
#print axioms coverMirror_proved
end Go.Proofs.Ytjkgkjdhehbepaa
