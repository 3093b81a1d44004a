
/- WholeMachines returns true for every plan, and changes nothing: a machine that is written anew from its own classes and steps, each with an entry of its own, takes the same steps. No condition beside the row's own. -/
import Derived.Test.YthjnpfhcjacibaaMMain
namespace Go.Proofs.Ythjnpfhcjacibaa
open Go.RowKit Go.Lib

theorem wholeMachines_walk (p : PlanL) (aC aR aE : Option Addr) (rv : List Value) (cC cR cE : Nat) (w : World) (h : PlanHas w p aC aR rv aE) (hwf : ∀ e ∈ p.ents, wfI e.1 ∧ wfI e.2.1 ∧ wfI e.2.2.1 ∧ wfI e.2.2.2) :
    Calls Try.prog 3 #[.agg #[.slice aC p.cls.length cC, .slice aR p.rows.length cR, .slice aE p.ents.length cE, .int .u8 (p.wide.toNat : Nat)]] w fun e w' => e = .returned (.bool true) ∧ Below w.heap.size w w' := by
  by_cases hs : p.cls.length ≤ 40 ∧ p.rows.length ≤ 8 ∧ p.ents.length ≤ 20
  case neg => exact whole_big _ _ _ _ _ _ _ _ _ _ w hs
  have hw : ∀ W, Below w.heap.size w W → Calls Try.prog 5 #[.agg #[.slice aC p.cls.length cC, .slice aR p.rows.length cR, .slice aE p.ents.length cE, .int .u8 (p.wide.toNat : Nat)], .int .i64 2, .int .i64 0] W fun e w' => ∃ a' c', e = .returned (.slice a' (planB p 2 0).length c') ∧ Has w' a' (bytesV (planB p 2 0)) ∧ (planB p 2 0).length ≤ c' ∧ c' ≤ maxLen ∧ Below W.heap.size W w' := by
    intro W hW
    refine (write_any p 2 0 2 0 rfl rfl aC aR aE rv cC cR cE W (h.below hW) (by omega) (by omega) (by omega) (by omega) (by omega) hwf).mono ?_
    rintro e w' ⟨a', c', k1, k2, k3, k4, _, k6⟩
    exact ⟨a', c', k1, has_of_owns k2, k3, k4, k6⟩
  by_cases hok : ∃ rs S, MOk (planB p 2 0) 40 2 rs S
  case neg => exact whole_none _ _ _ _ _ _ _ _ (planB p 2 0) _ _ _ w hs rfl hw fun rs S hx => hok ⟨rs, S, hx⟩
  obtain ⟨rs, S, hok⟩ := hok
  by_cases hbig : 250 < S * num (planB p 2 0) 0 4 ∨ 11 < num (planB p 2 0) 0 4
  · exact whole_wide _ _ _ _ _ _ _ _ (planB p 2 0) _ _ _ w hs rfl hw rs S hok hbig
  · exact whole_main _ _ _ _ _ _ _ _ (planB p 2 0) _ _ _ w hs rfl hw rs S hok ⟨hok.cls.1, by omega, by omega⟩

open Go.ChangeShapes Go.WideShapes Go.ChangeAt
set_option maxRecDepth 100000 in
theorem wholeMachines_walks (H : Type) (enc : TypeId × Value → H) : Walks H enc 3 [26] := by
  intro W base args ds p hval hA _
  obtain ⟨v0, vs0, d0, ds0, p0, q0, hargs, rfl, rfl, h0, r0⟩ := trodAll_cons hA
  obtain ⟨rfl, rfl, rfl⟩ := trodAll_nil r0
  obtain rfl : args = #[v0] := by cases args; simp_all
  obtain ⟨p, aC, aR, aE, rv, cC, cR, cE, rfl, hP, hw⟩ := open_plan (hval 0 26 v0 rfl rfl) h0
  exact wholeMachines_walk p aC aR aE rv cC cR cE W hP hw

set_option maxRecDepth 100000 in
theorem wholeMachines_lifted (os : Os) (started : os.Started) (H : Type) (enc : TypeId × Value → H) :
    ReturnsInHanded {} Try.checked os 3 .any (Rows.wholeMachinesSpec.pre6 enc Try.prog Try.f3 Rows.wholeMachinesRow.domain false) (Rows.wholeMachinesSpec.post enc Try.prog Try.f3 false true false false) :=
  lift_law (s := Rows.wholeMachinesSpec) (fn := Try.f3) started (by kernel_rfl) Try.func3
    (ChangeSpec.witness6 (enc := enc) (C := Try.checked) false ⟨#[], #[.agg #[.slice none 0 0, .slice none 0 0, .slice none 0 0, .int .u8 0]], []⟩ 8 (by kernel_rfl) (by kernel_rfl) (by kernel_rfl) (by kernel_rfl))
    rfl rfl (fun ds h => by match ds, h with | [d0], _ => rfl) (by intro t ht; simp [Try.params3] at ht; first | (subst ht; exact ⟨by kernel_rfl, of_decide_eq_true (by kernel_rfl)⟩) | (obtain rfl | rfl := ht <;> exact ⟨by kernel_rfl, of_decide_eq_true (by kernel_rfl)⟩) | (obtain rfl | rfl | rfl := ht <;> exact ⟨by kernel_rfl, of_decide_eq_true (by kernel_rfl)⟩) | (obtain rfl | rfl | rfl | rfl := ht <;> exact ⟨by kernel_rfl, of_decide_eq_true (by kernel_rfl)⟩))
    (by rw [Try.params3]; exact wholeMachines_walks H enc)
theorem wholeMachines_over : Rows.wholeMachinesRow.holds Try.pinned (OpenSpec.ofChange Rows.wholeMachinesSpec) :=
  OpenClaim.holds_of_wide 3 Try.f3 rfl rfl rfl rfl rfl rfl rfl ⟨rfl, rfl, rfl, rfl, rfl⟩ rfl rfl rfl rfl rfl (by kernel_rfl) Try.func3 (by kernel_rfl)
    (of_decide_eq_true (by kernel_rfl)) (by unfold Func.isWrapper; first | (rw [if_pos (by decide +kernel)]; kernel_rfl) | (rw [if_neg (by decide +kernel)]; exact ⟨rfl, rfl⟩))
    (fun os started H enc _ => wholeMachines_lifted os started H enc)
theorem wholeMachines_proved : Rows.WholeMachinesSaid := wholeMachines_over
#print axioms wholeMachines_proved
end Go.Proofs.Ythjnpfhcjacibaa
