
/- WholeWidths returns true for every advances, every em and either order, and changes nothing: tables that are made into a font, in whatever order, are read as what they say. No condition beside the row's own. -/
import Derived.Test.YthacabmnnpibkaaWWholeLaw
import Derived.Test.YthacabmnnpibkaaFrame
namespace Go.Proofs.Ythacabmnnpibkaa
open Go.ChangeShapes Go.WideShapes Go.ChangeAt Go.RowKit
open Go.ChangeMaps (open_string shut_string)

set_option maxRecDepth 100000 in
theorem wholeWidths_walks (H : Type) (enc : TypeId × Value → H) : Walks H enc 8 [39, 35, 4] := by
  intro W base args ds p hval hA _
  obtain ⟨v0, vs0, d0, ds0, p0, q0, hargs, rfl, rfl, h0, r0⟩ := trodAll_cons hA
  obtain ⟨v1, vs1, d1, ds1, p1, q1, rfl, rfl, rfl, h1, r1⟩ := trodAll_cons r0
  obtain ⟨v2, vs2, d2, ds2, p2, q2, rfl, rfl, rfl, h2, r2⟩ := trodAll_cons r1
  obtain ⟨rfl, rfl, rfl⟩ := trodAll_nil r2
  obtain rfl : args = #[v0, v1, v2] := by cases args; simp_all
  obtain ⟨a0, n0, c0, z0, rfl, f0, g0, j0, _, e0, t0⟩ := open_nums Try.underlying39 Try.underlying35 (hval 0 39 v0 rfl rfl) h0
  obtain ⟨x0, s0, u0, o0⟩ := u16s_of z0 t0
  obtain ⟨z1, rfl, t1⟩ := open_int Try.underlying35 (hval 1 35 v1 rfl rfl) h1
  obtain ⟨x1, rfl, o1⟩ := wf_u16 t1
  obtain ⟨x2, rfl, _, _⟩ := open_bool Try.underlying4 (hval 2 4 v2 rfl rfl) h2
  exact wholeWidths_walk a0 n0 c0 x0 x1 x2 W (u0 ▸ e0) (s0.trans f0) g0 j0 o0 o1

set_option maxRecDepth 100000 in
theorem wholeWidths_lifted (os : Os) (started : os.Started) (H : Type) (enc : TypeId × Value → H) :
    ReturnsInHanded {} Try.checked os 8 .any (Rows.wholeWidthsSpec.pre6 enc Try.prog Try.f8 Rows.wholeWidthsRow.domain false) (Rows.wholeWidthsSpec.post enc Try.prog Try.f8 false true false false) :=
  lift_law (s := Rows.wholeWidthsSpec) (fn := Try.f8) started (by kernel_rfl) Try.func8
    (ChangeSpec.witness6 (enc := enc) (C := Try.checked) false ⟨#[], #[.slice none 0 0, .int .u16 0, .bool false], []⟩ 8 (by kernel_rfl) (by kernel_rfl) (by kernel_rfl) (by kernel_rfl))
    rfl rfl (fun ds h => by match ds, h with | [d0, d1, d2], _ => rfl) (by intro t ht; simp [Try.params8] at ht; first | (subst ht; exact ⟨by kernel_rfl, of_decide_eq_true (by kernel_rfl)⟩) | (obtain rfl | rfl := ht <;> exact ⟨by kernel_rfl, of_decide_eq_true (by kernel_rfl)⟩) | (obtain rfl | rfl | rfl := ht <;> exact ⟨by kernel_rfl, of_decide_eq_true (by kernel_rfl)⟩) | (obtain rfl | rfl | rfl | rfl := ht <;> exact ⟨by kernel_rfl, of_decide_eq_true (by kernel_rfl)⟩))
    (by rw [Try.params8]; exact wholeWidths_walks H enc)
theorem wholeWidths_over : Rows.wholeWidthsRow.holds Try.pinned (OpenSpec.ofChange Rows.wholeWidthsSpec) :=
  OpenClaim.holds_of_wide 8 Try.f8 rfl rfl rfl rfl rfl rfl rfl ⟨rfl, rfl, rfl, rfl, rfl⟩ rfl rfl rfl rfl rfl (by kernel_rfl) Try.func8 (by kernel_rfl)
    (of_decide_eq_true (by kernel_rfl)) (by unfold Func.isWrapper; first | (rw [if_pos (by decide +kernel)]; kernel_rfl) | (rw [if_neg (by decide +kernel)]; exact ⟨rfl, rfl⟩))
    (fun os started H enc _ => wholeWidths_lifted os started H enc)
theorem wholeWidths_proved : Rows.WholeWidthsSaid := wholeWidths_over
#print axioms wholeWidths_proved
end Go.Proofs.Ythacabmnnpibkaa
