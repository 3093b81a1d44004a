
/- LookupTakes returns true for every bytes and every two numbers, and changes nothing: whoever takes a lookup of a View of bytes has the one that is read of them, or it is thrown, just where there is none. No condition beside the row's own. -/
import Derived.Test.YtajhljgcbafbcaaLTakesLaw
import Derived.Test.YtajhljgcbafbcaaFrame
namespace Go.Proofs.Ytajhljgcbafbcaa
open Go.ChangeShapes Go.WideShapes Go.ChangeAt Go.RowKit
open Go.ChangeMaps (open_string shut_string)

set_option maxRecDepth 100000 in
theorem lookupTakes_walks (H : Type) (enc : TypeId × Value → H) : Walks H enc 7 [22, 51] := by
  intro W base args ds p hval hA _
  obtain ⟨v0, vs0, d0, ds0, p0, q0, hargs, rfl, rfl, h0, r0⟩ := trodAll_cons hA
  obtain ⟨v1, vs1, d1, ds1, p1, q1, rfl, rfl, rfl, h1, r1⟩ := trodAll_cons r0
  obtain ⟨rfl, rfl, rfl⟩ := trodAll_nil r1
  obtain rfl : args = #[v0, v1] := by cases args; simp_all
  obtain ⟨a0, n0, c0, x0, rfl, e0, f0, g0, j0, k0⟩ := open_bytes Try.underlying22 Try.underlying5 (by kernel_rfl) (hval 0 22 v0 rfl rfl) h0
  obtain ⟨zs1, rfl, l1, t1⟩ := open_array Try.underlying51 Try.underlying3 (by kernel_rfl) (by kernel_rfl) (hval 1 51 v1 rfl rfl) h1
  obtain ⟨z1a, z1b, rfl⟩ : ∃ z1a z1b, zs1 = [z1a, z1b] := by match zs1, l1 with | [ya, yb], _ => exact ⟨ya, yb, rfl⟩
  exact lookupTakes_walk a0 n0 c0 x0 z1a z1b W e0 f0 g0 j0 (wf_i64 (t1 z1a (by simp))) (wf_i64 (t1 z1b (by simp)))

set_option maxRecDepth 100000 in
theorem lookupTakes_lifted (os : Os) (started : os.Started) (H : Type) (enc : TypeId × Value → H) :
    ReturnsInHanded {} Try.checked os 7 .any (Rows.lookupTakesSpec.pre6 enc Try.prog Try.f7 Rows.lookupTakesRow.domain false) (Rows.lookupTakesSpec.post enc Try.prog Try.f7 false true false false) :=
  lift_law (s := Rows.lookupTakesSpec) (fn := Try.f7) started (by kernel_rfl) Try.func7
    (ChangeSpec.witness6 (enc := enc) (C := Try.checked) false ⟨#[], #[.slice none 0 0, .agg #[.int .i64 0, .int .i64 0]], []⟩ 8 (by kernel_rfl) (by kernel_rfl) (by kernel_rfl) (by kernel_rfl))
    rfl rfl (fun ds h => by match ds, h with | [d0, d1], _ => rfl) (by intro t ht; simp [Try.params7] at ht; first | (subst ht; exact ⟨by kernel_rfl, of_decide_eq_true (by kernel_rfl)⟩) | (obtain rfl | rfl := ht <;> exact ⟨by kernel_rfl, of_decide_eq_true (by kernel_rfl)⟩) | (obtain rfl | rfl | rfl := ht <;> exact ⟨by kernel_rfl, of_decide_eq_true (by kernel_rfl)⟩) | (obtain rfl | rfl | rfl | rfl := ht <;> exact ⟨by kernel_rfl, of_decide_eq_true (by kernel_rfl)⟩))
    (by rw [Try.params7]; exact lookupTakes_walks H enc)
theorem lookupTakes_over : Rows.lookupTakesRow.holds Try.pinned (OpenSpec.ofChange Rows.lookupTakesSpec) :=
  OpenClaim.holds_of_wide 7 Try.f7 rfl rfl rfl rfl rfl rfl rfl ⟨rfl, rfl, rfl, rfl, rfl⟩ rfl rfl rfl rfl rfl (by kernel_rfl) Try.func7 (by kernel_rfl)
    (of_decide_eq_true (by kernel_rfl)) (by unfold Func.isWrapper; first | (rw [if_pos (by decide +kernel)]; kernel_rfl) | (rw [if_neg (by decide +kernel)]; exact ⟨rfl, rfl⟩))
    (fun os started H enc _ => lookupTakes_lifted os started H enc)
theorem lookupTakes_proved : Rows.LookupTakesSaid := lookupTakes_over
#print axioms lookupTakes_proved
end Go.Proofs.Ytajhljgcbafbcaa
