
/- SeekPlace returns true for every steps and every number, and changes nothing: in a rising list each number is found where it stands, and no other one. No condition beside the row's own. -/
import Derived.Test.YtgfhmpcfpjioaaaSPlaceLaw
import Derived.Test.YtgfhmpcfpjioaaaFrame
namespace Go.Proofs.Ytgfhmpcfpjioaaa
open Go.ChangeShapes Go.WideShapes Go.ChangeAt Go.RowKit
open Go.ChangeMaps (open_string shut_string)

theorem u16s_of : ∀ zs : List Int, (∀ z ∈ zs, (Lit.int .u16 z).wf = true) → ∃ ss : List Nat, ss.length = zs.length ∧ zs.map (Value.int .u16) = u16V ss ∧ ∀ s ∈ ss, s ≤ 65535
  | [], _ => ⟨[], rfl, rfl, fun s h => by cases h⟩
  | z :: zs, h => by
    obtain ⟨ss, h1, h2, h3⟩ := u16s_of zs (fun y hy => h y (by simp [hy]))
    obtain ⟨k, rfl, hk⟩ := wf_u16 (h z (by simp))
    exact ⟨k :: ss, by simp [h1], by simp [h2, u16V], fun s hs => by
      rcases List.mem_cons.1 hs with rfl | hs
      · exact hk
      · exact h3 s hs⟩

set_option maxRecDepth 100000 in
theorem seekPlace_walks (H : Type) (enc : TypeId × Value → H) : Walks H enc 6 [39, 3] := by
  intro W base args ds p hval hA _
  obtain ⟨v0, vs0, d0, ds0, p0, q0, hargs, rfl, rfl, h0, r0⟩ := trodAll_cons hA
  obtain ⟨v1, vs1, d1, ds1, p1, q1, rfl, rfl, rfl, h1, r1⟩ := trodAll_cons r0
  obtain ⟨rfl, rfl, rfl⟩ := trodAll_nil r1
  obtain rfl : args = #[v0, v1] := by cases args; simp_all
  obtain ⟨a, n, c, zs, rfl, hl, hn, hc, _, hh, hw⟩ := open_nums Try.underlying39 Try.underlying40 (hval 0 39 v0 rfl rfl) h0
  obtain ⟨x, rfl, w1⟩ := open_int Try.underlying3 (hval 1 3 v1 rfl rfl) h1
  obtain ⟨ss, hsl, hsv, hs⟩ := u16s_of zs hw
  exact seekPlace_walk a n c ss x W (hsv ▸ hh) (hsl.trans hl) hn hc hs (wf_i64 w1)

set_option maxRecDepth 100000 in
theorem seekPlace_lifted (os : Os) (started : os.Started) (H : Type) (enc : TypeId × Value → H) :
    ReturnsInHanded {} Try.checked os 6 .any (Rows.seekPlaceSpec.pre6 enc Try.prog Try.f6 Rows.seekPlaceRow.domain false) (Rows.seekPlaceSpec.post enc Try.prog Try.f6 false true false false) :=
  lift_law (s := Rows.seekPlaceSpec) (fn := Try.f6) started (by kernel_rfl) Try.func6
    (ChangeSpec.witness6 (enc := enc) (C := Try.checked) false ⟨#[], #[.slice none 0 0, .int .i64 0], []⟩ 8 (by kernel_rfl) (by kernel_rfl) (by kernel_rfl) (by kernel_rfl))
    rfl rfl (fun ds h => by match ds, h with | [d0, d1], _ => rfl) (by intro t ht; simp [Try.params6] at ht; first | (subst ht; exact ⟨by kernel_rfl, of_decide_eq_true (by kernel_rfl)⟩) | (obtain rfl | rfl := ht <;> exact ⟨by kernel_rfl, of_decide_eq_true (by kernel_rfl)⟩) | (obtain rfl | rfl | rfl := ht <;> exact ⟨by kernel_rfl, of_decide_eq_true (by kernel_rfl)⟩) | (obtain rfl | rfl | rfl | rfl := ht <;> exact ⟨by kernel_rfl, of_decide_eq_true (by kernel_rfl)⟩))
    (by rw [Try.params6]; exact seekPlace_walks H enc)
theorem seekPlace_over : Rows.seekPlaceRow.holds Try.pinned (OpenSpec.ofChange Rows.seekPlaceSpec) :=
  OpenClaim.holds_of_wide 6 Try.f6 rfl rfl rfl rfl rfl rfl rfl ⟨rfl, rfl, rfl, rfl, rfl⟩ rfl rfl rfl rfl rfl (by kernel_rfl) Try.func6 (by kernel_rfl)
    (of_decide_eq_true (by kernel_rfl)) (by unfold Func.isWrapper; first | (rw [if_pos (by decide +kernel)]; kernel_rfl) | (rw [if_neg (by decide +kernel)]; exact ⟨rfl, rfl⟩))
    (fun os started H enc _ => seekPlace_lifted os started H enc)
theorem seekPlace_proved : Rows.SeekPlaceSaid := seekPlace_over
#print axioms seekPlace_proved
end Go.Proofs.Ytgfhmpcfpjioaaa
