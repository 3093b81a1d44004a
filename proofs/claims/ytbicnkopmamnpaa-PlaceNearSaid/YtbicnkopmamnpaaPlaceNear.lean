
/- PlaceNear returns true for every three numbers, and changes nothing: what is too great, or too little, comes as near as can be, and the order of numbers stays. No condition beside the row's own. -/
import Derived.Test.YtbicnkopmamnpaaJ05
import Derived.Test.YtbicnkopmamnpaaJ01
namespace Go.Proofs.Ytbicnkopmamnpaa
open Go.RowKit Go.Lib

set_option maxHeartbeats 3200000 in
theorem placeNear_walk (a b c : Int) (w : World) (hc : -2147483648 ≤ c ∧ c ≤ 2147483647) :
    Calls Try.prog 8 #[.int .i64 a, .int .i64 b, .int .i32 c] w fun e w' => e = .returned (.bool true) ∧ Below w.heap.size w w' := by
  have HSP := Lib.hid (fun W => speaks21_any W)
  have H1 := Lib.hid (fun W => clamp_any a W)
  have H2 := Lib.hid (fun W => clamp_any b W)
  have hx := clampZ_in a
  have hy := clampZ_in b
  have H3 := Lib.hid (fun W => add_any (clampZ a) b hx W)
  have H4 := Lib.hid (fun W => add_any (clampZ b) a hy W)
  have H5 := Lib.hid (fun W => add_any c 0 hc W)
  have H6 := Lib.hid (fun W => add_any c b hc W)
  have k1 : a ≤ b → clampZ a ≤ clampZ b := by intro h; unfold clampZ; (repeat' split) <;> omega
  have k2 : b ≤ a → clampZ b ≤ clampZ a := by intro h; unfold clampZ; (repeat' split) <;> omega
  have k3 : clampZ a = a → clampZ b = b → addZ (clampZ a) b = addZ (clampZ b) a := by
    intro h1 h2
    unfold addZ
    rw [h1, h2, Int.add_comm]
  have k4 : addZ c 0 = c := addZ_zero hc
  have k5 : 0 < b → c ≤ addZ c b := by intro h; unfold addZ clampZ; (repeat' split) <;> omega
  have k6 : b < 0 → addZ c b ≤ c := by intro h; unfold addZ clampZ; (repeat' split) <;> omega
  rw [k4] at H5
  generalize clampZ a = x at *
  generalize clampZ b = y at *
  generalize addZ x b = p at *
  generalize addZ y a = q at *
  generalize addZ c b = r at *
  have w1 : IntKind.i64.wrap x = x := IntWalk.i64_in _ (by omega)
  have w2 : IntKind.i64.wrap y = y := IntWalk.i64_in _ (by omega)
  rcases Bool.eq_false_or_eq_true (decide (a ≤ b)) with d1 | d1 <;> rcases Bool.eq_false_or_eq_true (decide (b ≤ a)) with d2 | d2 <;> rcases Bool.eq_false_or_eq_true (x == a) with d3 | d3 <;> rcases Bool.eq_false_or_eq_true (y == b) with d4 | d4 <;> rcases Bool.eq_false_or_eq_true (decide (b ≤ 0)) with d5 | d5 <;> rcases Bool.eq_false_or_eq_true (decide (0 ≤ b)) with d6 | d6
  all_goals (try (exfalso; simp only [decide_eq_false_iff_not] at d1 d2; omega))
  all_goals (try (exfalso; simp only [decide_eq_false_iff_not] at d5 d6; omega))
  all_goals (try (have e1 : decide (y < x) = false := by (simp only [decide_eq_true_eq] at d1; have := k1 d1; simp only [decide_eq_false_iff_not]; omega)))
  all_goals (try (have e2 : decide (x < y) = false := by (simp only [decide_eq_true_eq] at d2; have := k2 d2; simp only [decide_eq_false_iff_not]; omega)))
  all_goals (try (have e3 : (p == q) = true := by (rw [beq_iff_eq]; exact k3 (beq_iff_eq.1 d3) (beq_iff_eq.1 d4))))
  all_goals (try (have e4 : decide (c ≤ r) = true := by (simp only [decide_eq_false_iff_not] at d5; simp only [decide_eq_true_eq]; exact k5 (by omega))))
  all_goals (try (have e5 : decide (r ≤ c) = true := by (simp only [decide_eq_false_iff_not] at d6; simp only [decide_eq_true_eq]; exact k6 (by omega))))
  all_goals clear k1 k2 k3 k4 k5 k6
  all_goals go_enter Try.func8, Try.ntmps8
  all_goals (go_wp2_with (first
    | (go_at_call 33; (with_reducible refine (HSP.out _).mono ?_); rintro e w1 ⟨rfl, hb1⟩; have h1c := bc hb1; have h1f := bf hb1; have h1z := hb1.size; try simp only [World.size_alloc, World.size_drew] at h1z)
    | (go_at_call 34; (with_reducible refine (H1.out _).mono ?_); rintro e w_ ⟨rfl, rfl⟩)
    | (go_at_call 34; (with_reducible refine (H2.out _).mono ?_); rintro e w_ ⟨rfl, rfl⟩)
    | (go_at_call 36; (with_reducible refine (H3.out _).mono ?_); rintro e w_ ⟨rfl, rfl⟩)
    | (go_at_call 36; (with_reducible refine (H4.out _).mono ?_); rintro e w_ ⟨rfl, rfl⟩)
    | (go_at_call 36; (with_reducible refine (H5.out _).mono ?_); rintro e w_ ⟨rfl, rfl⟩)
    | (go_at_call 36; (with_reducible refine (H6.out _).mono ?_); rintro e w_ ⟨rfl, rfl⟩)))
  all_goals go_ret
  all_goals exact ⟨by simp, blw⟩

open Go.ChangeShapes Go.WideShapes Go.ChangeAt Go.RowKit
open Go.ChangeMaps (open_string shut_string)

set_option maxRecDepth 100000 in
theorem placeNear_walks (H : Type) (enc : TypeId × Value → H) : Walks H enc 8 [3, 3, 21] := by
  intro W base args ds p hval hA _
  obtain ⟨v0, vs0, d0, ds0, p0, q0, hargs, rfl, rfl, h0, r0⟩ := trodAll_cons hA
  obtain ⟨v1, vs1, d1, ds1, p1, q1, rfl, rfl, rfl, h1, r1⟩ := trodAll_cons r0
  obtain ⟨v2, vs2, d2, ds2, p2, q2, rfl, rfl, rfl, h2, r2⟩ := trodAll_cons r1
  obtain ⟨rfl, rfl, rfl⟩ := trodAll_nil r2
  obtain rfl : args = #[v0, v1, v2] := by cases args; simp_all
  obtain ⟨a, rfl, t0⟩ := open_int Try.underlying3 (hval 0 3 v0 rfl rfl) h0
  obtain ⟨b, rfl, t1⟩ := open_int Try.underlying3 (hval 1 3 v1 rfl rfl) h1
  obtain ⟨c, rfl, t2⟩ := open_int Try.underlying21 (hval 2 21 v2 rfl rfl) h2
  exact placeNear_walk a b c W (wf_i32 t2)

set_option maxRecDepth 100000 in
theorem placeNear_lifted (os : Os) (started : os.Started) (H : Type) (enc : TypeId × Value → H) :
    ReturnsInHanded {} Try.checked os 8 .any (Rows.placeNearSpec.pre6 enc Try.prog Try.f8 Rows.placeNearRow.domain false) (Rows.placeNearSpec.post enc Try.prog Try.f8 false true false false) :=
  lift_law (s := Rows.placeNearSpec) (fn := Try.f8) started (by kernel_rfl) Try.func8
    (ChangeSpec.witness6 (enc := enc) (C := Try.checked) false ⟨#[], #[.int .i64 0, .int .i64 0, .int .i32 0], []⟩ 8 (by kernel_rfl) (by kernel_rfl) (by kernel_rfl) (by kernel_rfl))
    rfl rfl (fun ds h => by match ds, h with | [d0, d1, d2], _ => rfl) (by intro t ht; simp [Try.params8] at ht; first | (subst ht; exact ⟨by kernel_rfl, of_decide_eq_true (by kernel_rfl)⟩) | (obtain rfl | rfl := ht <;> exact ⟨by kernel_rfl, of_decide_eq_true (by kernel_rfl)⟩) | (obtain rfl | rfl | rfl := ht <;> exact ⟨by kernel_rfl, of_decide_eq_true (by kernel_rfl)⟩) | (obtain rfl | rfl | rfl | rfl := ht <;> exact ⟨by kernel_rfl, of_decide_eq_true (by kernel_rfl)⟩))
    (by rw [Try.params8]; exact placeNear_walks H enc)
theorem placeNear_over : Rows.placeNearRow.holds Try.pinned (OpenSpec.ofChange Rows.placeNearSpec) :=
  OpenClaim.holds_of_wide 8 Try.f8 rfl rfl rfl rfl rfl rfl rfl ⟨rfl, rfl, rfl, rfl, rfl⟩ rfl rfl rfl rfl rfl (by kernel_rfl) Try.func8 (by kernel_rfl)
    (of_decide_eq_true (by kernel_rfl)) (by unfold Func.isWrapper; first | (rw [if_pos (by decide +kernel)]; kernel_rfl) | (rw [if_neg (by decide +kernel)]; exact ⟨rfl, rfl⟩))
    (fun os started H enc _ => placeNear_lifted os started H enc)
theorem placeNear_proved : Rows.PlaceNearSaid := placeNear_over
#print axioms placeNear_proved
end Go.Proofs.Ytbicnkopmamnpaa
