/- ViewHalves returns true for every four bytes: a number of four bytes is made of those of two, and a number of two of those of one; below nought just where the highest bit is set. No condition beside the row's own. -/
import Derived.Test.YtfgkmgabldjpaaaHalves
import Derived.Test.YtfgkmgabldjpaaaFrame
namespace Go.Proofs.Ytfgkmgabldjpaaa
open Go.ChangeShapes Go.WideShapes Go.ChangeAt Go.RowKit
open Go.ChangeMaps (open_string shut_string)

set_option maxRecDepth 100000 in
theorem viewHalves_walks (H : Type) (enc : TypeId × Value → H) : Walks H enc 8 [37] := by
  intro W base args ds p hval hA _
  obtain ⟨v0, vs0, d0, ds0, p0, q0, hargs, rfl, rfl, h0, r0⟩ := trodAll_cons hA
  obtain ⟨rfl, rfl, rfl⟩ := trodAll_nil r0
  obtain rfl : args = #[v0] := by cases args; simp_all
  obtain ⟨zs, rfl, hl, hw⟩ := open_array Try.underlying37 Try.underlying5 (by kernel_rfl) (by kernel_rfl) (hval 0 37 v0 rfl rfl) h0
  match zs, hl with
  | [z0, z1, z2, z3], _ =>
    have b0 := bounds_u8 (hw z0 (by simp))
    have b1 := bounds_u8 (hw z1 (by simp))
    have b2 := bounds_u8 (hw z2 (by simp))
    have b3 := bounds_u8 (hw z3 (by simp))
    have e : ∀ z : Int, 0 ≤ z ∧ z ≤ 255 → (((UInt8.ofNat z.toNat).toNat : Nat) : Int) = z := by
      intro z hz
      simp only [UInt8.toNat_ofNat']
      omega
    have := viewHalves_walk (UInt8.ofNat z0.toNat) (UInt8.ofNat z1.toNat) (UInt8.ofNat z2.toNat) (UInt8.ofNat z3.toNat) W
    rw [e z0 b0, e z1 b1, e z2 b2, e z3 b3] at this
    exact this

set_option maxRecDepth 100000 in
theorem viewHalves_lifted (os : Os) (started : os.Started) (H : Type) (enc : TypeId × Value → H) :
    ReturnsInHanded {} Try.checked os 8 .any (Rows.viewHalvesSpec.pre6 enc Try.prog Try.f8 Rows.viewHalvesRow.domain false) (Rows.viewHalvesSpec.post enc Try.prog Try.f8 false true false false) :=
  lift_law (s := Rows.viewHalvesSpec) (fn := Try.f8) started (by kernel_rfl) Try.func8
    (ChangeSpec.witness6 (enc := enc) (C := Try.checked) false ⟨#[], #[.agg #[.int .u8 0, .int .u8 0, .int .u8 0, .int .u8 0]], []⟩ 8 (by kernel_rfl) (by kernel_rfl) (by kernel_rfl) (by kernel_rfl))
    rfl rfl (fun ds h => by match ds, h with | [d0], _ => rfl) (by intro t ht; simp [Try.params8] at ht; first | (subst ht; exact ⟨by kernel_rfl, of_decide_eq_true (by kernel_rfl)⟩) | (obtain rfl | rfl := ht <;> exact ⟨by kernel_rfl, of_decide_eq_true (by kernel_rfl)⟩) | (obtain rfl | rfl | rfl := ht <;> exact ⟨by kernel_rfl, of_decide_eq_true (by kernel_rfl)⟩) | (obtain rfl | rfl | rfl | rfl := ht <;> exact ⟨by kernel_rfl, of_decide_eq_true (by kernel_rfl)⟩))
    (by rw [Try.params8]; exact viewHalves_walks H enc)
theorem viewHalves_over : Rows.viewHalvesRow.holds Try.pinned (OpenSpec.ofChange Rows.viewHalvesSpec) :=
  OpenClaim.holds_of_wide 8 Try.f8 rfl rfl rfl rfl rfl rfl rfl ⟨rfl, rfl, rfl, rfl, rfl⟩ rfl rfl rfl rfl rfl (by kernel_rfl) Try.func8 (by kernel_rfl)
    (of_decide_eq_true (by kernel_rfl)) (by unfold Func.isWrapper; first | (rw [if_pos (by decide +kernel)]; kernel_rfl) | (rw [if_neg (by decide +kernel)]; exact ⟨rfl, rfl⟩))
    (fun os started H enc _ => viewHalves_lifted os started H enc)
theorem viewHalves_proved : Rows.ViewHalvesSaid := viewHalves_over
#print axioms viewHalves_proved
end Go.Proofs.Ytfgkmgabldjpaaa
