/- ViewOwn returns true for every slice of bytes, and changes nothing: the bytes that are answered are apart from those that are looked at. No condition beside the row's own. -/
import Derived.Test.YtfgkmgabldjpaaaLaw1
import Derived.Test.YtfgkmgabldjpaaaFrame
namespace Go.Proofs.Ytfgkmgabldjpaaa
open Go.ChangeShapes Go.WideShapes Go.ChangeAt Go.RowKit
open Go.ChangeMaps (open_string shut_string)

set_option maxRecDepth 100000 in
theorem viewOwn_walks (H : Type) (enc : TypeId × Value → H) : Walks H enc 7 [22] := by
  intro W base args ds p hval hA _
  obtain ⟨v0, vs0, d0, ds0, p0, q0, hargs, rfl, rfl, h0, r0⟩ := trodAll_cons hA
  obtain ⟨rfl, rfl, rfl⟩ := trodAll_nil r0
  obtain rfl : args = #[v0] := by cases args; simp_all
  obtain ⟨a, n, c, bs, rfl, h, hl, hn, hc, hA⟩ := open_bytes Try.underlying22 Try.underlying5 (by kernel_rfl) (hval 0 22 v0 rfl rfl) h0
  exact viewOwn_walk a n c bs W h hl hn hc hA

set_option maxRecDepth 100000 in
theorem viewOwn_lifted (os : Os) (started : os.Started) (H : Type) (enc : TypeId × Value → H) :
    ReturnsInHanded {} Try.checked os 7 .any (Rows.viewOwnSpec.pre6 enc Try.prog Try.f7 Rows.viewOwnRow.domain false) (Rows.viewOwnSpec.post enc Try.prog Try.f7 false true false false) :=
  lift_law (s := Rows.viewOwnSpec) (fn := Try.f7) started (by kernel_rfl) Try.func7
    (ChangeSpec.witness6 (enc := enc) (C := Try.checked) false ⟨#[], #[.slice none 0 0], []⟩ 8 (by kernel_rfl) (by kernel_rfl) (by kernel_rfl) (by kernel_rfl))
    rfl rfl (fun ds h => by match ds, h with | [d0], _ => rfl) (by intro t ht; simp [Try.params7] at ht; first | (subst ht; exact ⟨by kernel_rfl, of_decide_eq_true (by kernel_rfl)⟩) | (obtain rfl | rfl := ht <;> exact ⟨by kernel_rfl, of_decide_eq_true (by kernel_rfl)⟩) | (obtain rfl | rfl | rfl := ht <;> exact ⟨by kernel_rfl, of_decide_eq_true (by kernel_rfl)⟩) | (obtain rfl | rfl | rfl | rfl := ht <;> exact ⟨by kernel_rfl, of_decide_eq_true (by kernel_rfl)⟩))
    (by rw [Try.params7]; exact viewOwn_walks H enc)
theorem viewOwn_over : Rows.viewOwnRow.holds Try.pinned (OpenSpec.ofChange Rows.viewOwnSpec) :=
  OpenClaim.holds_of_wide 7 Try.f7 rfl rfl rfl rfl rfl rfl rfl ⟨rfl, rfl, rfl, rfl, rfl⟩ rfl rfl rfl rfl rfl (by kernel_rfl) Try.func7 (by kernel_rfl)
    (of_decide_eq_true (by kernel_rfl)) (by unfold Func.isWrapper; first | (rw [if_pos (by decide +kernel)]; kernel_rfl) | (rw [if_neg (by decide +kernel)]; exact ⟨rfl, rfl⟩))
    (fun os started H enc _ => viewOwn_lifted os started H enc)
theorem viewOwn_proved : Rows.ViewOwnSaid := viewOwn_over
#print axioms viewOwn_proved
end Go.Proofs.Ytfgkmgabldjpaaa
