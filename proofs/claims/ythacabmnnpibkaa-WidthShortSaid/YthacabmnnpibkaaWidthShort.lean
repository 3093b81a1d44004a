
/- WidthShort returns true for every advances and every two bytes, and changes nothing: a table that lacks its last bytes is none; one that has more is the same. No condition beside the row's own. -/
import Derived.Test.YthacabmnnpibkaaWShortLaw
import Derived.Test.YthacabmnnpibkaaFrame
namespace Go.Proofs.Ythacabmnnpibkaa
open Go.ChangeShapes Go.WideShapes Go.ChangeAt Go.RowKit
open Go.ChangeMaps (open_string shut_string)

set_option maxRecDepth 100000 in
theorem widthShort_walks (H : Type) (enc : TypeId × Value → H) : Walks H enc 7 [39, 5, 5] := by
  intro W base args ds p hval hA _
  obtain ⟨v0, vs0, d0, ds0, p0, q0, hargs, rfl, rfl, h0, r0⟩ := trodAll_cons hA
  obtain ⟨v1, vs1, d1, ds1, p1, q1, rfl, rfl, rfl, h1, r1⟩ := trodAll_cons r0
  obtain ⟨v2, vs2, d2, ds2, p2, q2, rfl, rfl, rfl, h2, r2⟩ := trodAll_cons r1
  obtain ⟨rfl, rfl, rfl⟩ := trodAll_nil r2
  obtain rfl : args = #[v0, v1, v2] := by cases args; simp_all
  obtain ⟨a0, n0, c0, z0, rfl, f0, g0, j0, _, e0, t0⟩ := open_nums Try.underlying39 Try.underlying35 (hval 0 39 v0 rfl rfl) h0
  obtain ⟨x0, s0, u0, o0⟩ := u16s_of z0 t0
  obtain ⟨z1, rfl, t1⟩ := open_int Try.underlying5 (hval 1 5 v1 rfl rfl) h1
  obtain ⟨x1, rfl, o1⟩ := wf_u8 t1
  obtain ⟨z2, rfl, t2⟩ := open_int Try.underlying5 (hval 2 5 v2 rfl rfl) h2
  obtain ⟨x2, rfl, o2⟩ := wf_u8 t2
  exact widthShort_walk a0 n0 c0 x0 x1 x2 W (u0 ▸ e0) (s0.trans f0) g0 j0 o0 o1 o2

set_option maxRecDepth 100000 in
theorem widthShort_lifted (os : Os) (started : os.Started) (H : Type) (enc : TypeId × Value → H) :
    ReturnsInHanded {} Try.checked os 7 .any (Rows.widthShortSpec.pre6 enc Try.prog Try.f7 Rows.widthShortRow.domain false) (Rows.widthShortSpec.post enc Try.prog Try.f7 false true false false) :=
  lift_law (s := Rows.widthShortSpec) (fn := Try.f7) started (by kernel_rfl) Try.func7
    (ChangeSpec.witness6 (enc := enc) (C := Try.checked) false ⟨#[], #[.slice none 0 0, .int .u8 0, .int .u8 0], []⟩ 8 (by kernel_rfl) (by kernel_rfl) (by kernel_rfl) (by kernel_rfl))
    rfl rfl (fun ds h => by match ds, h with | [d0, d1, d2], _ => rfl) (by intro t ht; simp [Try.params7] at ht; first | (subst ht; exact ⟨by kernel_rfl, of_decide_eq_true (by kernel_rfl)⟩) | (obtain rfl | rfl := ht <;> exact ⟨by kernel_rfl, of_decide_eq_true (by kernel_rfl)⟩) | (obtain rfl | rfl | rfl := ht <;> exact ⟨by kernel_rfl, of_decide_eq_true (by kernel_rfl)⟩) | (obtain rfl | rfl | rfl | rfl := ht <;> exact ⟨by kernel_rfl, of_decide_eq_true (by kernel_rfl)⟩))
    (by rw [Try.params7]; exact widthShort_walks H enc)
theorem widthShort_over : Rows.widthShortRow.holds Try.pinned (OpenSpec.ofChange Rows.widthShortSpec) :=
  OpenClaim.holds_of_wide 7 Try.f7 rfl rfl rfl rfl rfl rfl rfl ⟨rfl, rfl, rfl, rfl, rfl⟩ rfl rfl rfl rfl rfl (by kernel_rfl) Try.func7 (by kernel_rfl)
    (of_decide_eq_true (by kernel_rfl)) (by unfold Func.isWrapper; first | (rw [if_pos (by decide +kernel)]; kernel_rfl) | (rw [if_neg (by decide +kernel)]; exact ⟨rfl, rfl⟩))
    (fun os started H enc _ => widthShort_lifted os started H enc)
theorem widthShort_proved : Rows.WidthShortSaid := widthShort_over
#print axioms widthShort_proved
end Go.Proofs.Ythacabmnnpibkaa
