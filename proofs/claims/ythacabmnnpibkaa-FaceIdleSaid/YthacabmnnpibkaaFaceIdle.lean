
/- FaceIdle returns true for every byte and every two numbers, and changes nothing: the bytes of these tables that don't matter may be any. No condition beside the row's own. -/
import Derived.Test.YthacabmnnpibkaaFIdleLaw
import Derived.Test.YthacabmnnpibkaaFrame
namespace Go.Proofs.Ythacabmnnpibkaa
open Go.ChangeShapes Go.WideShapes Go.ChangeAt Go.RowKit
open Go.ChangeMaps (open_string shut_string)

set_option maxRecDepth 100000 in
theorem faceIdle_walks (H : Type) (enc : TypeId × Value → H) : Walks H enc 4 [5, 35, 35] := by
  intro W base args ds p hval hA _
  obtain ⟨v0, vs0, d0, ds0, p0, q0, hargs, rfl, rfl, h0, r0⟩ := trodAll_cons hA
  obtain ⟨v1, vs1, d1, ds1, p1, q1, rfl, rfl, rfl, h1, r1⟩ := trodAll_cons r0
  obtain ⟨v2, vs2, d2, ds2, p2, q2, rfl, rfl, rfl, h2, r2⟩ := trodAll_cons r1
  obtain ⟨rfl, rfl, rfl⟩ := trodAll_nil r2
  obtain rfl : args = #[v0, v1, v2] := by cases args; simp_all
  obtain ⟨z0, rfl, t0⟩ := open_int Try.underlying5 (hval 0 5 v0 rfl rfl) h0
  obtain ⟨x0, rfl, o0⟩ := wf_u8 t0
  obtain ⟨z1, rfl, t1⟩ := open_int Try.underlying35 (hval 1 35 v1 rfl rfl) h1
  obtain ⟨x1, rfl, o1⟩ := wf_u16 t1
  obtain ⟨z2, rfl, t2⟩ := open_int Try.underlying35 (hval 2 35 v2 rfl rfl) h2
  obtain ⟨x2, rfl, o2⟩ := wf_u16 t2
  exact faceIdle_walk x0 x1 x2 W o0 o1 o2

set_option maxRecDepth 100000 in
theorem faceIdle_lifted (os : Os) (started : os.Started) (H : Type) (enc : TypeId × Value → H) :
    ReturnsInHanded {} Try.checked os 4 .any (Rows.faceIdleSpec.pre6 enc Try.prog Try.f4 Rows.faceIdleRow.domain false) (Rows.faceIdleSpec.post enc Try.prog Try.f4 false true false false) :=
  lift_law (s := Rows.faceIdleSpec) (fn := Try.f4) started (by kernel_rfl) Try.func4
    (ChangeSpec.witness6 (enc := enc) (C := Try.checked) false ⟨#[], #[.int .u8 0, .int .u16 0, .int .u16 0], []⟩ 8 (by kernel_rfl) (by kernel_rfl) (by kernel_rfl) (by kernel_rfl))
    rfl rfl (fun ds h => by match ds, h with | [d0, d1, d2], _ => rfl) (by intro t ht; simp [Try.params4] at ht; first | (subst ht; exact ⟨by kernel_rfl, of_decide_eq_true (by kernel_rfl)⟩) | (obtain rfl | rfl := ht <;> exact ⟨by kernel_rfl, of_decide_eq_true (by kernel_rfl)⟩) | (obtain rfl | rfl | rfl := ht <;> exact ⟨by kernel_rfl, of_decide_eq_true (by kernel_rfl)⟩) | (obtain rfl | rfl | rfl | rfl := ht <;> exact ⟨by kernel_rfl, of_decide_eq_true (by kernel_rfl)⟩))
    (by rw [Try.params4]; exact faceIdle_walks H enc)
theorem faceIdle_over : Rows.faceIdleRow.holds Try.pinned (OpenSpec.ofChange Rows.faceIdleSpec) :=
  OpenClaim.holds_of_wide 4 Try.f4 rfl rfl rfl rfl rfl rfl rfl ⟨rfl, rfl, rfl, rfl, rfl⟩ rfl rfl rfl rfl rfl (by kernel_rfl) Try.func4 (by kernel_rfl)
    (of_decide_eq_true (by kernel_rfl)) (by unfold Func.isWrapper; first | (rw [if_pos (by decide +kernel)]; kernel_rfl) | (rw [if_neg (by decide +kernel)]; exact ⟨rfl, rfl⟩))
    (fun os started H enc _ => faceIdle_lifted os started H enc)
theorem faceIdle_proved : Rows.FaceIdleSaid := faceIdle_over
#print axioms faceIdle_proved
end Go.Proofs.Ythacabmnnpibkaa
