/- ViewCuts returns true for every bytes and every three ints: pieces of bytes are these bytes, or thrown. No condition beside the row's own. -/
import Derived.Test.YtfgkmgabldjpaaaCutsLaw
import Derived.Test.YtfgkmgabldjpaaaFrame
namespace Go.Proofs.Ytfgkmgabldjpaaa
open Go.ChangeShapes Go.WideShapes Go.ChangeAt Go.RowKit
open Go.ChangeMaps (open_string shut_string)

theorem bounds_i64' {n : Int} (h : (Lit.int .i64 n).wf = true) : -9223372036854775808 ≤ n ∧ n ≤ 9223372036854775807 := by
  simp [Lit.wf, IntKind.min, IntKind.max, IntKind.signed, IntKind.bits] at h
  omega

set_option maxRecDepth 100000 in
theorem viewCuts_walks (H : Type) (enc : TypeId × Value → H) : Walks H enc 4 [22, 30] := by
  intro W base args ds p hval hA _
  obtain ⟨v0, vs0, d0, ds0, p0, q0, hargs, rfl, rfl, h0, r0⟩ := trodAll_cons hA
  obtain ⟨v1, vs1, d1, ds1, p1, q1, rfl, rfl, rfl, h1, r1⟩ := trodAll_cons r0
  obtain ⟨rfl, rfl, rfl⟩ := trodAll_nil r1
  obtain rfl : args = #[v0, v1] := by cases args; simp_all
  obtain ⟨a, n, c, bs, rfl, h, hl, hn, hc, hA⟩ := open_bytes Try.underlying22 Try.underlying5 (by kernel_rfl) (hval 0 22 v0 rfl rfl) h0
  obtain ⟨zs, rfl, hl3, hw⟩ := open_array Try.underlying30 Try.underlying3 (by kernel_rfl) (by kernel_rfl) (hval 1 30 v1 rfl rfl) h1
  match zs, hl3 with
  | [z0, z1, z2], _ => exact viewCuts_walk a n c bs z0 z1 z2 W h hl hn hc (bounds_i64' (hw z0 (by simp))) (bounds_i64' (hw z1 (by simp))) (bounds_i64' (hw z2 (by simp)))

set_option maxRecDepth 100000 in
theorem viewCuts_lifted (os : Os) (started : os.Started) (H : Type) (enc : TypeId × Value → H) :
    ReturnsInHanded {} Try.checked os 4 .any (Rows.viewCutsSpec.pre6 enc Try.prog Try.f4 Rows.viewCutsRow.domain false) (Rows.viewCutsSpec.post enc Try.prog Try.f4 false true false false) :=
  lift_law (s := Rows.viewCutsSpec) (fn := Try.f4) started (by kernel_rfl) Try.func4
    (ChangeSpec.witness6 (enc := enc) (C := Try.checked) false ⟨#[], #[.slice none 0 0, .agg #[.int .i64 0, .int .i64 0, .int .i64 0]], []⟩ 8 (by kernel_rfl) (by kernel_rfl) (by kernel_rfl) (by kernel_rfl))
    rfl rfl (fun ds h => by match ds, h with | [d0, d1], _ => rfl) (by intro t ht; simp [Try.params4] at ht; first | (subst ht; exact ⟨by kernel_rfl, of_decide_eq_true (by kernel_rfl)⟩) | (obtain rfl | rfl := ht <;> exact ⟨by kernel_rfl, of_decide_eq_true (by kernel_rfl)⟩) | (obtain rfl | rfl | rfl := ht <;> exact ⟨by kernel_rfl, of_decide_eq_true (by kernel_rfl)⟩) | (obtain rfl | rfl | rfl | rfl := ht <;> exact ⟨by kernel_rfl, of_decide_eq_true (by kernel_rfl)⟩))
    (by rw [Try.params4]; exact viewCuts_walks H enc)
theorem viewCuts_over : Rows.viewCutsRow.holds Try.pinned (OpenSpec.ofChange Rows.viewCutsSpec) :=
  OpenClaim.holds_of_wide 4 Try.f4 rfl rfl rfl rfl rfl rfl rfl ⟨rfl, rfl, rfl, rfl, rfl⟩ rfl rfl rfl rfl rfl (by kernel_rfl) Try.func4 (by kernel_rfl)
    (of_decide_eq_true (by kernel_rfl)) (by unfold Func.isWrapper; first | (rw [if_pos (by decide +kernel)]; kernel_rfl) | (rw [if_neg (by decide +kernel)]; exact ⟨rfl, rfl⟩))
    (fun os started H enc _ => viewCuts_lifted os started H enc)
theorem viewCuts_proved : Rows.ViewCutsSaid := viewCuts_over
#print axioms viewCuts_proved
end Go.Proofs.Ytfgkmgabldjpaaa
