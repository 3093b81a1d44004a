
/- WidthKeeps returns true for every advances and every byte, and changes nothing: a font that was read stays as it was, whatever becomes of its bytes. No condition beside the row's own. -/
import Derived.Test.YthacabmnnpibkaaWKeepsLaw
import Derived.Test.YthacabmnnpibkaaFrame
namespace Go.Proofs.Ythacabmnnpibkaa
open Go.ChangeShapes Go.WideShapes Go.ChangeAt Go.RowKit
open Go.ChangeMaps (open_string shut_string)

set_option maxRecDepth 100000 in
theorem widthKeeps_walks (H : Type) (enc : TypeId × Value → H) : Walks H enc 6 [39, 5] := by
  intro W base args ds p hval hA _
  obtain ⟨v0, vs0, d0, ds0, p0, q0, hargs, rfl, rfl, h0, r0⟩ := trodAll_cons hA
  obtain ⟨v1, vs1, d1, ds1, p1, q1, rfl, rfl, rfl, h1, r1⟩ := trodAll_cons r0
  obtain ⟨rfl, rfl, rfl⟩ := trodAll_nil r1
  obtain rfl : args = #[v0, v1] := by cases args; simp_all
  obtain ⟨a0, n0, c0, z0, rfl, f0, g0, j0, _, e0, t0⟩ := open_nums Try.underlying39 Try.underlying35 (hval 0 39 v0 rfl rfl) h0
  obtain ⟨x0, s0, u0, o0⟩ := u16s_of z0 t0
  obtain ⟨z1, rfl, t1⟩ := open_int Try.underlying5 (hval 1 5 v1 rfl rfl) h1
  obtain ⟨x1, rfl, o1⟩ := wf_u8 t1
  exact widthKeeps_walk a0 n0 c0 x0 x1 W (u0 ▸ e0) (s0.trans f0) g0 j0 o0 o1

set_option maxRecDepth 100000 in
theorem widthKeeps_lifted (os : Os) (started : os.Started) (H : Type) (enc : TypeId × Value → H) :
    ReturnsInHanded {} Try.checked os 6 .any (Rows.widthKeepsSpec.pre6 enc Try.prog Try.f6 Rows.widthKeepsRow.domain false) (Rows.widthKeepsSpec.post enc Try.prog Try.f6 false true false false) :=
  lift_law (s := Rows.widthKeepsSpec) (fn := Try.f6) started (by kernel_rfl) Try.func6
    (ChangeSpec.witness6 (enc := enc) (C := Try.checked) false ⟨#[], #[.slice none 0 0, .int .u8 0], []⟩ 8 (by kernel_rfl) (by kernel_rfl) (by kernel_rfl) (by kernel_rfl))
    rfl rfl (fun ds h => by match ds, h with | [d0, d1], _ => rfl) (by intro t ht; simp [Try.params6] at ht; first | (subst ht; exact ⟨by kernel_rfl, of_decide_eq_true (by kernel_rfl)⟩) | (obtain rfl | rfl := ht <;> exact ⟨by kernel_rfl, of_decide_eq_true (by kernel_rfl)⟩) | (obtain rfl | rfl | rfl := ht <;> exact ⟨by kernel_rfl, of_decide_eq_true (by kernel_rfl)⟩) | (obtain rfl | rfl | rfl | rfl := ht <;> exact ⟨by kernel_rfl, of_decide_eq_true (by kernel_rfl)⟩))
    (by rw [Try.params6]; exact widthKeeps_walks H enc)
theorem widthKeeps_over : Rows.widthKeepsRow.holds Try.pinned (OpenSpec.ofChange Rows.widthKeepsSpec) :=
  OpenClaim.holds_of_wide 6 Try.f6 rfl rfl rfl rfl rfl rfl rfl ⟨rfl, rfl, rfl, rfl, rfl⟩ rfl rfl rfl rfl rfl (by kernel_rfl) Try.func6 (by kernel_rfl)
    (of_decide_eq_true (by kernel_rfl)) (by unfold Func.isWrapper; first | (rw [if_pos (by decide +kernel)]; kernel_rfl) | (rw [if_neg (by decide +kernel)]; exact ⟨rfl, rfl⟩))
    (fun os started H enc _ => widthKeeps_lifted os started H enc)
theorem widthKeeps_proved : Rows.WidthKeepsSaid := widthKeeps_over
#print axioms widthKeeps_proved
end Go.Proofs.Ythacabmnnpibkaa
