
/- SeekFirst returns true for every two numbers of 32 bits, and changes nothing: where something holds first is found, with as few questions as there are binary digits. No condition beside the row's own. -/
import Derived.Test.YtgfhmpcfpjioaaaSFirstLaw
import Derived.Test.YtgfhmpcfpjioaaaFrame
namespace Go.Proofs.Ytgfhmpcfpjioaaa
open Go.ChangeShapes Go.WideShapes Go.ChangeAt Go.RowKit
open Go.ChangeMaps (open_string shut_string)

set_option maxRecDepth 100000 in
theorem seekFirst_walks (H : Type) (enc : TypeId × Value → H) : Walks H enc 5 [34, 34] := by
  intro W base args ds p hval hA _
  obtain ⟨v0, vs0, d0, ds0, p0, q0, hargs, rfl, rfl, h0, r0⟩ := trodAll_cons hA
  obtain ⟨v1, vs1, d1, ds1, p1, q1, rfl, rfl, rfl, h1, r1⟩ := trodAll_cons r0
  obtain ⟨rfl, rfl, rfl⟩ := trodAll_nil r1
  obtain rfl : args = #[v0, v1] := by cases args; simp_all
  obtain ⟨n0, rfl, w0⟩ := open_int Try.underlying34 (hval 0 34 v0 rfl rfl) h0
  obtain ⟨n1, rfl, w1⟩ := open_int Try.underlying34 (hval 1 34 v1 rfl rfl) h1
  obtain ⟨n, rfl, hn⟩ := wf_u32 w0
  obtain ⟨f, rfl, hf⟩ := wf_u32 w1
  exact seekFirst_walk n f W hn hf

set_option maxRecDepth 100000 in
theorem seekFirst_lifted (os : Os) (started : os.Started) (H : Type) (enc : TypeId × Value → H) :
    ReturnsInHanded {} Try.checked os 5 .any (Rows.seekFirstSpec.pre6 enc Try.prog Try.f5 Rows.seekFirstRow.domain false) (Rows.seekFirstSpec.post enc Try.prog Try.f5 false true false false) :=
  lift_law (s := Rows.seekFirstSpec) (fn := Try.f5) started (by kernel_rfl) Try.func5
    (ChangeSpec.witness6 (enc := enc) (C := Try.checked) false ⟨#[], #[.int .u32 0, .int .u32 0], []⟩ 8 (by kernel_rfl) (by kernel_rfl) (by kernel_rfl) (by kernel_rfl))
    rfl rfl (fun ds h => by match ds, h with | [d0, d1], _ => rfl) (by intro t ht; simp [Try.params5] at ht; first | (subst ht; exact ⟨by kernel_rfl, of_decide_eq_true (by kernel_rfl)⟩) | (obtain rfl | rfl := ht <;> exact ⟨by kernel_rfl, of_decide_eq_true (by kernel_rfl)⟩) | (obtain rfl | rfl | rfl := ht <;> exact ⟨by kernel_rfl, of_decide_eq_true (by kernel_rfl)⟩) | (obtain rfl | rfl | rfl | rfl := ht <;> exact ⟨by kernel_rfl, of_decide_eq_true (by kernel_rfl)⟩))
    (by rw [Try.params5]; exact seekFirst_walks H enc)
theorem seekFirst_over : Rows.seekFirstRow.holds Try.pinned (OpenSpec.ofChange Rows.seekFirstSpec) :=
  OpenClaim.holds_of_wide 5 Try.f5 rfl rfl rfl rfl rfl rfl rfl ⟨rfl, rfl, rfl, rfl, rfl⟩ rfl rfl rfl rfl rfl (by kernel_rfl) Try.func5 (by kernel_rfl)
    (of_decide_eq_true (by kernel_rfl)) (by unfold Func.isWrapper; first | (rw [if_pos (by decide +kernel)]; kernel_rfl) | (rw [if_neg (by decide +kernel)]; exact ⟨rfl, rfl⟩))
    (fun os started H enc _ => seekFirst_lifted os started H enc)
theorem seekFirst_proved : Rows.SeekFirstSaid := seekFirst_over
#print axioms seekFirst_proved
end Go.Proofs.Ytgfhmpcfpjioaaa
