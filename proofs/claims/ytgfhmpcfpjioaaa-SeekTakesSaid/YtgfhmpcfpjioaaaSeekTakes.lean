
/- SeekTakes returns true for every bytes and every three numbers, and changes nothing: whoever takes rows of a View of bytes has the rows that are read of them, or it is thrown, just where they can't be read. No condition beside the row's own. -/
import Derived.Test.YtgfhmpcfpjioaaaSTakesLaw
import Derived.Test.YtgfhmpcfpjioaaaFrame
namespace Go.Proofs.Ytgfhmpcfpjioaaa
open Go.ChangeShapes Go.WideShapes Go.ChangeAt Go.RowKit
open Go.ChangeMaps (open_string shut_string)

set_option maxRecDepth 100000 in
theorem seekTakes_walks (H : Type) (enc : TypeId × Value → H) : Walks H enc 7 [22, 3, 23] := by
  intro W base args ds p hval hA _
  obtain ⟨v0, vs0, d0, ds0, p0, q0, hargs, rfl, rfl, h0, r0⟩ := trodAll_cons hA
  obtain ⟨v1, vs1, d1, ds1, p1, q1, rfl, rfl, rfl, h1, r1⟩ := trodAll_cons r0
  obtain ⟨v2, vs2, d2, ds2, p2, q2, rfl, rfl, rfl, h2, r2⟩ := trodAll_cons r1
  obtain ⟨rfl, rfl, rfl⟩ := trodAll_nil r2
  obtain rfl : args = #[v0, v1, v2] := by cases args; simp_all
  obtain ⟨a0, n0, c0, x0, rfl, e0, f0, g0, j0, k0⟩ := open_bytes Try.underlying22 Try.underlying5 (by kernel_rfl) (hval 0 22 v0 rfl rfl) h0
  obtain ⟨z1, rfl, t1⟩ := open_int Try.underlying3 (hval 1 3 v1 rfl rfl) h1
  obtain ⟨zs2, rfl, l2, t2⟩ := open_array Try.underlying23 Try.underlying3 (by kernel_rfl) (by kernel_rfl) (hval 2 23 v2 rfl rfl) h2
  obtain ⟨z2a, z2b, rfl⟩ : ∃ z2a z2b, zs2 = [z2a, z2b] := by match zs2, l2 with | [ya, yb], _ => exact ⟨ya, yb, rfl⟩
  exact seekTakes_walk a0 n0 c0 x0 z1 z2a z2b W e0 f0 g0 j0 k0 (wf_i64 t1) (wf_i64 (t2 z2a (by simp))) (wf_i64 (t2 z2b (by simp)))

set_option maxRecDepth 100000 in
theorem seekTakes_lifted (os : Os) (started : os.Started) (H : Type) (enc : TypeId × Value → H) :
    ReturnsInHanded {} Try.checked os 7 .any (Rows.seekTakesSpec.pre6 enc Try.prog Try.f7 Rows.seekTakesRow.domain false) (Rows.seekTakesSpec.post enc Try.prog Try.f7 false true false false) :=
  lift_law (s := Rows.seekTakesSpec) (fn := Try.f7) started (by kernel_rfl) Try.func7
    (ChangeSpec.witness6 (enc := enc) (C := Try.checked) false ⟨#[], #[.slice none 0 0, .int .i64 0, .agg #[.int .i64 0, .int .i64 0]], []⟩ 8 (by kernel_rfl) (by kernel_rfl) (by kernel_rfl) (by kernel_rfl))
    rfl rfl (fun ds h => by match ds, h with | [d0, d1, d2], _ => rfl) (by intro t ht; simp [Try.params7] at ht; first | (subst ht; exact ⟨by kernel_rfl, of_decide_eq_true (by kernel_rfl)⟩) | (obtain rfl | rfl := ht <;> exact ⟨by kernel_rfl, of_decide_eq_true (by kernel_rfl)⟩) | (obtain rfl | rfl | rfl := ht <;> exact ⟨by kernel_rfl, of_decide_eq_true (by kernel_rfl)⟩) | (obtain rfl | rfl | rfl | rfl := ht <;> exact ⟨by kernel_rfl, of_decide_eq_true (by kernel_rfl)⟩))
    (by rw [Try.params7]; exact seekTakes_walks H enc)
theorem seekTakes_over : Rows.seekTakesRow.holds Try.pinned (OpenSpec.ofChange Rows.seekTakesSpec) :=
  OpenClaim.holds_of_wide 7 Try.f7 rfl rfl rfl rfl rfl rfl rfl ⟨rfl, rfl, rfl, rfl, rfl⟩ rfl rfl rfl rfl rfl (by kernel_rfl) Try.func7 (by kernel_rfl)
    (of_decide_eq_true (by kernel_rfl)) (by unfold Func.isWrapper; first | (rw [if_pos (by decide +kernel)]; kernel_rfl) | (rw [if_neg (by decide +kernel)]; exact ⟨rfl, rfl⟩))
    (fun os started H enc _ => seekTakes_lifted os started H enc)
theorem seekTakes_proved : Rows.SeekTakesSaid := seekTakes_over
#print axioms seekTakes_proved
end Go.Proofs.Ytgfhmpcfpjioaaa
