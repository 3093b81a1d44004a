
/- SfntOrder returns true for every list of parts, and changes nothing: in whatever order parts are handed in, the font is the same. No condition beside the row's own. -/
import Derived.Test.YtginpjkojfdcoaaOrderLaw
import Derived.Test.YtginpjkojfdcoaaSpeak2
import Derived.Test.YtginpjkojfdcoaaOpenParts
namespace Go.Proofs.Ytginpjkojfdcoaa
open Go.ChangeShapes Go.WideShapes Go.ChangeAt Go.RowKit
open Go.ChangeMaps (open_string shut_string)

set_option maxRecDepth 100000 in
theorem sfntOrder_walks (H : Type) (enc : TypeId × Value → H) : Walks H enc 3 [22] := by
  intro W base args ds p hval hA _
  obtain ⟨v0, vs0, d0, ds0, p0, q0, hargs, rfl, rfl, h0, r0⟩ := trodAll_cons hA
  obtain ⟨rfl, rfl, rfl⟩ := trodAll_nil r0
  obtain rfl : args = #[v0] := by cases args; simp_all
  obtain ⟨a, n, c, ps, rfl, h, hl, hn, hc, hA, hps⟩ := open_parts (hval 0 22 v0 rfl rfl) h0
  exact sfntOrder_walk speaks_order a n c ps W h hl hn hc (fun h => by have := hA h; omega) (fun p hp => Nat.le_trans (hps p hp).2.2.1 (hps p hp).2.2.2.1) hps

set_option maxRecDepth 100000 in
theorem sfntOrder_lifted (os : Os) (started : os.Started) (H : Type) (enc : TypeId × Value → H) :
    ReturnsInHanded {} Try.checked os 3 .any (Rows.sfntOrderSpec.pre6 enc Try.prog Try.f3 Rows.sfntOrderRow.domain false) (Rows.sfntOrderSpec.post enc Try.prog Try.f3 false true false false) :=
  lift_law (s := Rows.sfntOrderSpec) (fn := Try.f3) started (by kernel_rfl) Try.func3
    (ChangeSpec.witness6 (enc := enc) (C := Try.checked) false ⟨#[], #[.slice none 0 0], []⟩ 8 (by kernel_rfl) (by kernel_rfl) (by kernel_rfl) (by kernel_rfl))
    rfl rfl (fun ds h => by match ds, h with | [d0], _ => rfl) (by intro t ht; simp [Try.params3] at ht; first | (subst ht; exact ⟨by kernel_rfl, of_decide_eq_true (by kernel_rfl)⟩) | (obtain rfl | rfl := ht <;> exact ⟨by kernel_rfl, of_decide_eq_true (by kernel_rfl)⟩) | (obtain rfl | rfl | rfl := ht <;> exact ⟨by kernel_rfl, of_decide_eq_true (by kernel_rfl)⟩) | (obtain rfl | rfl | rfl | rfl := ht <;> exact ⟨by kernel_rfl, of_decide_eq_true (by kernel_rfl)⟩))
    (by rw [Try.params3]; exact sfntOrder_walks H enc)
theorem sfntOrder_over : Rows.sfntOrderRow.holds Try.pinned (OpenSpec.ofChange Rows.sfntOrderSpec) :=
  OpenClaim.holds_of_wide 3 Try.f3 rfl rfl rfl rfl rfl rfl rfl ⟨rfl, rfl, rfl, rfl, rfl⟩ rfl rfl rfl rfl rfl (by kernel_rfl) Try.func3 (by kernel_rfl)
    (of_decide_eq_true (by kernel_rfl)) (by unfold Func.isWrapper; first | (rw [if_pos (by decide +kernel)]; kernel_rfl) | (rw [if_neg (by decide +kernel)]; exact ⟨rfl, rfl⟩))
    (fun os started H enc _ => sfntOrder_lifted os started H enc)
theorem sfntOrder_proved : Rows.SfntOrderSaid := sfntOrder_over
#print axioms sfntOrder_proved
end Go.Proofs.Ytginpjkojfdcoaa
