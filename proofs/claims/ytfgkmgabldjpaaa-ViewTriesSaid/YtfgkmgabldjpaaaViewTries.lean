/- ViewTries returns true for every slice of bools and either way: what throws is caught, and who needs what holds goes on. No condition beside the row's own. -/
import Derived.Test.YtfgkmgabldjpaaaTries
import Derived.Test.YtfgkmgabldjpaaaFrame
namespace Go.Proofs.Ytfgkmgabldjpaaa
open Go.ChangeShapes Go.WideShapes Go.ChangeAt Go.RowKit
open Go.ChangeMaps (open_string shut_string)

theorem bools_of {H : Type} {enc : TypeId × Value → H} {P : Program} {W : World} {e : TypeId} (he : P.underlying e = some .bool) :
    ∀ us : List (List Value), (∀ x ∈ us, ∃ m y, DataW.trod enc P W 0 (fun _ => true) true m e x = some y) → ∃ bs : List Bool, bs.length = us.length ∧ us.flatten = boolsV bs
  | [], _ => ⟨[], rfl, rfl⟩
  | x :: us, h => by
    obtain ⟨bs, h1, h2⟩ := bools_of he us (fun y hy => h y (by simp [hy]))
    obtain ⟨m, y, hy⟩ := h x (by simp)
    obtain ⟨b, rfl, _⟩ := DataW.trod_bool he hy
    exact ⟨b :: bs, by simp [h1], by simp [h2, boolsV]⟩

set_option maxRecDepth 100000 in
theorem viewTries_walks (H : Type) (enc : TypeId × Value → H) : Walks H enc 6 [42, 4] := by
  intro W base args ds p hval hA _
  obtain ⟨v0, vs0, d0, ds0, p0, q0, hargs, rfl, rfl, h0, r0⟩ := trodAll_cons hA
  obtain ⟨v1, vs1, d1, ds1, p1, q1, rfl, rfl, rfl, h1, r1⟩ := trodAll_cons r0
  obtain ⟨rfl, rfl, rfl⟩ := trodAll_nil r1
  obtain rfl : args = #[v0, v1] := by cases args; simp_all
  obtain ⟨a, n, c, us, rfl, hl, hn, hc, _, h, hx⟩ := open_rows Try.underlying42 (hval 0 42 v0 rfl rfl) h0
  obtain ⟨bs, hbl, hbs⟩ := bools_of Try.underlying4 us (fun x hx' => (hx x hx').2)
  obtain ⟨f, rfl, _, _⟩ := open_bool Try.underlying4 (hval 1 4 v1 rfl rfl) h1
  exact viewTries_walk a n c bs f W (hbs ▸ h) (hbl.trans hl) hn hc

set_option maxRecDepth 100000 in
theorem viewTries_lifted (os : Os) (started : os.Started) (H : Type) (enc : TypeId × Value → H) :
    ReturnsInHanded {} Try.checked os 6 .any (Rows.viewTriesSpec.pre6 enc Try.prog Try.f6 Rows.viewTriesRow.domain false) (Rows.viewTriesSpec.post enc Try.prog Try.f6 false true false false) :=
  lift_law (s := Rows.viewTriesSpec) (fn := Try.f6) started (by kernel_rfl) Try.func6
    (ChangeSpec.witness6 (enc := enc) (C := Try.checked) false ⟨#[], #[.slice none 0 0, .bool false], []⟩ 8 (by kernel_rfl) (by kernel_rfl) (by kernel_rfl) (by kernel_rfl))
    rfl rfl (fun ds h => by match ds, h with | [d0, d1], _ => rfl) (by intro t ht; simp [Try.params6] at ht; first | (subst ht; exact ⟨by kernel_rfl, of_decide_eq_true (by kernel_rfl)⟩) | (obtain rfl | rfl := ht <;> exact ⟨by kernel_rfl, of_decide_eq_true (by kernel_rfl)⟩) | (obtain rfl | rfl | rfl := ht <;> exact ⟨by kernel_rfl, of_decide_eq_true (by kernel_rfl)⟩) | (obtain rfl | rfl | rfl | rfl := ht <;> exact ⟨by kernel_rfl, of_decide_eq_true (by kernel_rfl)⟩))
    (by rw [Try.params6]; exact viewTries_walks H enc)
theorem viewTries_over : Rows.viewTriesRow.holds Try.pinned (OpenSpec.ofChange Rows.viewTriesSpec) :=
  OpenClaim.holds_of_wide 6 Try.f6 rfl rfl rfl rfl rfl rfl rfl ⟨rfl, rfl, rfl, rfl, rfl⟩ rfl rfl rfl rfl rfl (by kernel_rfl) Try.func6 (by kernel_rfl)
    (of_decide_eq_true (by kernel_rfl)) (by unfold Func.isWrapper; first | (rw [if_pos (by decide +kernel)]; kernel_rfl) | (rw [if_neg (by decide +kernel)]; exact ⟨rfl, rfl⟩))
    (fun os started H enc _ => viewTries_lifted os started H enc)
theorem viewTries_proved : Rows.ViewTriesSaid := viewTries_over
#print axioms viewTries_proved
end Go.Proofs.Ytfgkmgabldjpaaa
