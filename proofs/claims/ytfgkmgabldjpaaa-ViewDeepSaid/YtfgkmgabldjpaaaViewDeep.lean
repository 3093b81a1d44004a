/- ViewDeep returns true for every bytes and every four numbers: what is cut of what was cut is what is cut at once. No condition beside the row's own. -/
import Derived.Test.YtfgkmgabldjpaaaDeepLaw
import Derived.Test.YtfgkmgabldjpaaaFrame
namespace Go.Proofs.Ytfgkmgabldjpaaa
open Go.ChangeShapes Go.WideShapes Go.ChangeAt Go.RowKit
open Go.ChangeMaps (open_string shut_string)

set_option maxRecDepth 100000 in
theorem viewDeep_walks (H : Type) (enc : TypeId × Value → H) : Walks H enc 5 [22, 37] := by
  intro W base args ds p hval hA _
  obtain ⟨v0, vs0, d0, ds0, p0, q0, hargs, rfl, rfl, h0, r0⟩ := trodAll_cons hA
  obtain ⟨v1, vs1, d1, ds1, p1, q1, rfl, rfl, rfl, h1, r1⟩ := trodAll_cons r0
  obtain ⟨rfl, rfl, rfl⟩ := trodAll_nil r1
  obtain rfl : args = #[v0, v1] := by cases args; simp_all
  obtain ⟨a, n, c, bs, rfl, h, hl, hn, hc, hA⟩ := open_bytes Try.underlying22 Try.underlying5 (by kernel_rfl) (hval 0 22 v0 rfl rfl) h0
  obtain ⟨zs, rfl, hl4, hw⟩ := open_array Try.underlying37 Try.underlying5 (by kernel_rfl) (by kernel_rfl) (hval 1 37 v1 rfl rfl) h1
  match zs, hl4 with
  | [z0, z1, z2, z3], _ =>
    have b0 := bounds_u8 (hw z0 (by simp))
    have b1 := bounds_u8 (hw z1 (by simp))
    have b2 := bounds_u8 (hw z2 (by simp))
    have b3 := bounds_u8 (hw z3 (by simp))
    have := viewDeep_walk a n c bs z0.toNat z1.toNat z2.toNat z3.toNat W h hl hn hc (by omega) (by omega) (by omega) (by omega)
    rw [Int.toNat_of_nonneg b0.1, Int.toNat_of_nonneg b1.1, Int.toNat_of_nonneg b2.1, Int.toNat_of_nonneg b3.1] at this
    exact this

set_option maxRecDepth 100000 in
theorem viewDeep_lifted (os : Os) (started : os.Started) (H : Type) (enc : TypeId × Value → H) :
    ReturnsInHanded {} Try.checked os 5 .any (Rows.viewDeepSpec.pre6 enc Try.prog Try.f5 Rows.viewDeepRow.domain false) (Rows.viewDeepSpec.post enc Try.prog Try.f5 false true false false) :=
  lift_law (s := Rows.viewDeepSpec) (fn := Try.f5) started (by kernel_rfl) Try.func5
    (ChangeSpec.witness6 (enc := enc) (C := Try.checked) false ⟨#[], #[.slice none 0 0, .agg #[.int .u8 0, .int .u8 0, .int .u8 0, .int .u8 0]], []⟩ 8 (by kernel_rfl) (by kernel_rfl) (by kernel_rfl) (by kernel_rfl))
    rfl rfl (fun ds h => by match ds, h with | [d0, d1], _ => rfl) (by intro t ht; simp [Try.params5] at ht; first | (subst ht; exact ⟨by kernel_rfl, of_decide_eq_true (by kernel_rfl)⟩) | (obtain rfl | rfl := ht <;> exact ⟨by kernel_rfl, of_decide_eq_true (by kernel_rfl)⟩) | (obtain rfl | rfl | rfl := ht <;> exact ⟨by kernel_rfl, of_decide_eq_true (by kernel_rfl)⟩) | (obtain rfl | rfl | rfl | rfl := ht <;> exact ⟨by kernel_rfl, of_decide_eq_true (by kernel_rfl)⟩))
    (by rw [Try.params5]; exact viewDeep_walks H enc)
theorem viewDeep_over : Rows.viewDeepRow.holds Try.pinned (OpenSpec.ofChange Rows.viewDeepSpec) :=
  OpenClaim.holds_of_wide 5 Try.f5 rfl rfl rfl rfl rfl rfl rfl ⟨rfl, rfl, rfl, rfl, rfl⟩ rfl rfl rfl rfl rfl (by kernel_rfl) Try.func5 (by kernel_rfl)
    (of_decide_eq_true (by kernel_rfl)) (by unfold Func.isWrapper; first | (rw [if_pos (by decide +kernel)]; kernel_rfl) | (rw [if_neg (by decide +kernel)]; exact ⟨rfl, rfl⟩))
    (fun os started H enc _ => viewDeep_lifted os started H enc)
theorem viewDeep_proved : Rows.ViewDeepSaid := viewDeep_over
#print axioms viewDeep_proved
end Go.Proofs.Ytfgkmgabldjpaaa
