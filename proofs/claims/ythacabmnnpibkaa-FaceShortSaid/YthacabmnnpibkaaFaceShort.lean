
/- FaceShort returns true for every two bytes and every bytes, and changes nothing: a table that is too short, or isn't there, makes no face; a longer one, and others beside it, the same. No condition beside the row's own. -/
import Derived.Test.YthacabmnnpibkaaFShortLaw
import Derived.Test.YthacabmnnpibkaaFrame
namespace Go.Proofs.Ythacabmnnpibkaa
open Go.ChangeShapes Go.WideShapes Go.ChangeAt Go.RowKit
open Go.ChangeMaps (open_string shut_string)

set_option maxRecDepth 100000 in
theorem faceShort_walks (H : Type) (enc : TypeId × Value → H) : Walks H enc 3 [5, 5, 22] := by
  intro W base args ds p hval hA _
  obtain ⟨v0, vs0, d0, ds0, p0, q0, hargs, rfl, rfl, h0, r0⟩ := trodAll_cons hA
  obtain ⟨v1, vs1, d1, ds1, p1, q1, rfl, rfl, rfl, h1, r1⟩ := trodAll_cons r0
  obtain ⟨v2, vs2, d2, ds2, p2, q2, rfl, rfl, rfl, h2, r2⟩ := trodAll_cons r1
  obtain ⟨rfl, rfl, rfl⟩ := trodAll_nil r2
  obtain rfl : args = #[v0, v1, v2] := by cases args; simp_all
  obtain ⟨z0, rfl, t0⟩ := open_int Try.underlying5 (hval 0 5 v0 rfl rfl) h0
  obtain ⟨x0, rfl, o0⟩ := wf_u8 t0
  obtain ⟨z1, rfl, t1⟩ := open_int Try.underlying5 (hval 1 5 v1 rfl rfl) h1
  obtain ⟨x1, rfl, o1⟩ := wf_u8 t1
  obtain ⟨a2, n2, c2, x2, rfl, e2, f2, g2, j2, k2⟩ := open_bytes Try.underlying22 Try.underlying5 (by kernel_rfl) (hval 2 22 v2 rfl rfl) h2
  exact faceShort_walk x0 x1 a2 n2 c2 x2 W o0 o1 e2 f2 g2 j2 k2

set_option maxRecDepth 100000 in
theorem faceShort_lifted (os : Os) (started : os.Started) (H : Type) (enc : TypeId × Value → H) :
    ReturnsInHanded {} Try.checked os 3 .any (Rows.faceShortSpec.pre6 enc Try.prog Try.f3 Rows.faceShortRow.domain false) (Rows.faceShortSpec.post enc Try.prog Try.f3 false true false false) :=
  lift_law (s := Rows.faceShortSpec) (fn := Try.f3) started (by kernel_rfl) Try.func3
    (ChangeSpec.witness6 (enc := enc) (C := Try.checked) false ⟨#[], #[.int .u8 0, .int .u8 0, .slice none 0 0], []⟩ 8 (by kernel_rfl) (by kernel_rfl) (by kernel_rfl) (by kernel_rfl))
    rfl rfl (fun ds h => by match ds, h with | [d0, d1, d2], _ => rfl) (by intro t ht; simp [Try.params3] at ht; first | (subst ht; exact ⟨by kernel_rfl, of_decide_eq_true (by kernel_rfl)⟩) | (obtain rfl | rfl := ht <;> exact ⟨by kernel_rfl, of_decide_eq_true (by kernel_rfl)⟩) | (obtain rfl | rfl | rfl := ht <;> exact ⟨by kernel_rfl, of_decide_eq_true (by kernel_rfl)⟩) | (obtain rfl | rfl | rfl | rfl := ht <;> exact ⟨by kernel_rfl, of_decide_eq_true (by kernel_rfl)⟩))
    (by rw [Try.params3]; exact faceShort_walks H enc)
theorem faceShort_over : Rows.faceShortRow.holds Try.pinned (OpenSpec.ofChange Rows.faceShortSpec) :=
  OpenClaim.holds_of_wide 3 Try.f3 rfl rfl rfl rfl rfl rfl rfl ⟨rfl, rfl, rfl, rfl, rfl⟩ rfl rfl rfl rfl rfl (by kernel_rfl) Try.func3 (by kernel_rfl)
    (of_decide_eq_true (by kernel_rfl)) (by unfold Func.isWrapper; first | (rw [if_pos (by decide +kernel)]; kernel_rfl) | (rw [if_neg (by decide +kernel)]; exact ⟨rfl, rfl⟩))
    (fun os started H enc _ => faceShort_lifted os started H enc)
theorem faceShort_proved : Rows.FaceShortSaid := faceShort_over
#print axioms faceShort_proved
end Go.Proofs.Ythacabmnnpibkaa
