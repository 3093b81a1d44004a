
/- CoverKerx returns true for every word of 32 bits and every direction of 64, and changes nothing: what a subtable of distances is, whether it runs, and which way it goes, are the document's. No condition beside the row's own. -/
import Derived.Test.YtjkgkjdhehbepaaCLaws3
import Derived.Test.YtjkgkjdhehbepaaFrame
namespace Go.Proofs.Ytjkgkjdhehbepaa
open Go.ChangeShapes Go.WideShapes Go.ChangeAt Go.RowKit
open Go.ChangeMaps (open_string shut_string)

set_option maxRecDepth 100000 in
theorem coverKerx_walks (H : Type) (enc : TypeId × Value → H) : Walks H enc 4 [22, 3] := by
  intro W base args ds p hval hA _
  obtain ⟨v0, vs0, d0, ds0, p0, q0, hargs, rfl, rfl, h0, r0⟩ := trodAll_cons hA
  obtain ⟨v1, vs1, d1, ds1, p1, q1, rfl, rfl, rfl, h1, r1⟩ := trodAll_cons r0
  obtain ⟨rfl, rfl, rfl⟩ := trodAll_nil r1
  obtain rfl : args = #[v0, v1] := by cases args; simp_all
  obtain ⟨z0, rfl, t0⟩ := open_int Try.underlying22 (hval 0 22 v0 rfl rfl) h0
  obtain ⟨x0, rfl, o0⟩ := wf_u32 t0
  obtain ⟨z1, rfl, t1⟩ := open_int Try.underlying3 (hval 1 3 v1 rfl rfl) h1
  exact coverKerx_walk x0 z1 W o0

set_option maxRecDepth 100000 in
theorem coverKerx_lifted (os : Os) (started : os.Started) (H : Type) (enc : TypeId × Value → H) :
    ReturnsInHanded {} Try.checked os 4 .any (Rows.coverKerxSpec.pre6 enc Try.prog Try.f4 Rows.coverKerxRow.domain false) (Rows.coverKerxSpec.post enc Try.prog Try.f4 false true false false) :=
  lift_law (s := Rows.coverKerxSpec) (fn := Try.f4) started (by kernel_rfl) Try.func4
    (ChangeSpec.witness6 (enc := enc) (C := Try.checked) false ⟨#[], #[.int .u32 0, .int .i64 0], []⟩ 8 (by kernel_rfl) (by kernel_rfl) (by kernel_rfl) (by kernel_rfl))
    rfl rfl (fun ds h => by match ds, h with | [d0, d1], _ => rfl) (by intro t ht; simp [Try.params4] at ht; first | (subst ht; exact ⟨by kernel_rfl, of_decide_eq_true (by kernel_rfl)⟩) | (obtain rfl | rfl := ht <;> exact ⟨by kernel_rfl, of_decide_eq_true (by kernel_rfl)⟩) | (obtain rfl | rfl | rfl := ht <;> exact ⟨by kernel_rfl, of_decide_eq_true (by kernel_rfl)⟩) | (obtain rfl | rfl | rfl | rfl := ht <;> exact ⟨by kernel_rfl, of_decide_eq_true (by kernel_rfl)⟩))
    (by rw [Try.params4]; exact coverKerx_walks H enc)
theorem coverKerx_over : Rows.coverKerxRow.holds Try.pinned (OpenSpec.ofChange Rows.coverKerxSpec) :=
  OpenClaim.holds_of_wide 4 Try.f4 rfl rfl rfl rfl rfl rfl rfl ⟨rfl, rfl, rfl, rfl, rfl⟩ rfl rfl rfl rfl rfl (by kernel_rfl) Try.func4 (by kernel_rfl)
    (of_decide_eq_true (by kernel_rfl)) (by unfold Func.isWrapper; first | (rw [if_pos (by decide +kernel)]; kernel_rfl) | (rw [if_neg (by decide +kernel)]; exact ⟨rfl, rfl⟩))
    (fun os started H enc _ => coverKerx_lifted os started H enc)
theorem coverKerx_proved : Rows.CoverKerxSaid := coverKerx_over
#print axioms coverKerx_proved
end Go.Proofs.Ytjkgkjdhehbepaa
