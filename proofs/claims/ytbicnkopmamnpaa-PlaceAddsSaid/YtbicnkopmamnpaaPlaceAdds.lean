
/- PlaceAdds returns true for every two numbers, and changes nothing: any two numbers together are the document's, within 32 bits. No condition beside the row's own. -/
import Derived.Test.YtbicnkopmamnpaaJ05
import Derived.Test.YtbicnkopmamnpaaJ01
namespace Go.Proofs.Ytbicnkopmamnpaa
open Go.RowKit Go.Lib

set_option maxHeartbeats 1600000 in
theorem placeAdds_walk (a n : Int) (w : World) (ha : -2147483648 ≤ a ∧ a ≤ 2147483647) :
    Calls Try.prog 6 #[.int .i32 a, .int .i64 n] w fun e w' => e = .returned (.bool true) ∧ Below w.heap.size w w' := by
  have HSP := Lib.hid (fun W => speaks21_any W)
  have H1 := Lib.hid (fun W => clamp_any n W)
  have H2 := Lib.hid (fun W => refClamp_any n W)
  have H3 := Lib.hid (fun W => add_any a n ha W)
  have H4 := Lib.hid (fun W => refAdd_any a n ha W)
  have hc := clampZ_in n
  generalize clampZ n = m at *
  generalize addZ a n = k at *
  have w1 : IntKind.i64.wrap m = m := IntWalk.i64_in _ (by omega)
  go_enter Try.func6, Try.ntmps6
  go_wp2_with (first
    | (go_at_call 33; (with_reducible refine (HSP.out _).mono ?_); rintro e w1 ⟨rfl, hb1⟩; have h1c := bc hb1; have h1f := bf hb1; have h1z := hb1.size; try simp only [World.size_alloc, World.size_drew] at h1z)
    | (go_at_call 34; (with_reducible refine (H1.out _).mono ?_); rintro e w_ ⟨rfl, rfl⟩)
    | (go_at_call 35; (with_reducible refine (H2.out _).mono ?_); rintro e w_ ⟨rfl, rfl⟩)
    | (go_at_call 36; (with_reducible refine (H3.out _).mono ?_); rintro e w_ ⟨rfl, rfl⟩)
    | (go_at_call 37; (with_reducible refine (H4.out _).mono ?_); rintro e w_ ⟨rfl, rfl⟩))
  go_ret
  exact ⟨by simp, blw⟩

open Go.ChangeShapes Go.WideShapes Go.ChangeAt Go.RowKit
open Go.ChangeMaps (open_string shut_string)

set_option maxRecDepth 100000 in
theorem placeAdds_walks (H : Type) (enc : TypeId × Value → H) : Walks H enc 6 [21, 3] := by
  intro W base args ds p hval hA _
  obtain ⟨v0, vs0, d0, ds0, p0, q0, hargs, rfl, rfl, h0, r0⟩ := trodAll_cons hA
  obtain ⟨v1, vs1, d1, ds1, p1, q1, rfl, rfl, rfl, h1, r1⟩ := trodAll_cons r0
  obtain ⟨rfl, rfl, rfl⟩ := trodAll_nil r1
  obtain rfl : args = #[v0, v1] := by cases args; simp_all
  obtain ⟨a, rfl, t0⟩ := open_int Try.underlying21 (hval 0 21 v0 rfl rfl) h0
  obtain ⟨n, rfl, t1⟩ := open_int Try.underlying3 (hval 1 3 v1 rfl rfl) h1
  exact placeAdds_walk a n W (wf_i32 t0)

set_option maxRecDepth 100000 in
theorem placeAdds_lifted (os : Os) (started : os.Started) (H : Type) (enc : TypeId × Value → H) :
    ReturnsInHanded {} Try.checked os 6 .any (Rows.placeAddsSpec.pre6 enc Try.prog Try.f6 Rows.placeAddsRow.domain false) (Rows.placeAddsSpec.post enc Try.prog Try.f6 false true false false) :=
  lift_law (s := Rows.placeAddsSpec) (fn := Try.f6) started (by kernel_rfl) Try.func6
    (ChangeSpec.witness6 (enc := enc) (C := Try.checked) false ⟨#[], #[.int .i32 0, .int .i64 0], []⟩ 8 (by kernel_rfl) (by kernel_rfl) (by kernel_rfl) (by kernel_rfl))
    rfl rfl (fun ds h => by match ds, h with | [d0, d1], _ => rfl) (by intro t ht; simp [Try.params6] at ht; first | (subst ht; exact ⟨by kernel_rfl, of_decide_eq_true (by kernel_rfl)⟩) | (obtain rfl | rfl := ht <;> exact ⟨by kernel_rfl, of_decide_eq_true (by kernel_rfl)⟩) | (obtain rfl | rfl | rfl := ht <;> exact ⟨by kernel_rfl, of_decide_eq_true (by kernel_rfl)⟩) | (obtain rfl | rfl | rfl | rfl := ht <;> exact ⟨by kernel_rfl, of_decide_eq_true (by kernel_rfl)⟩))
    (by rw [Try.params6]; exact placeAdds_walks H enc)
theorem placeAdds_over : Rows.placeAddsRow.holds Try.pinned (OpenSpec.ofChange Rows.placeAddsSpec) :=
  OpenClaim.holds_of_wide 6 Try.f6 rfl rfl rfl rfl rfl rfl rfl ⟨rfl, rfl, rfl, rfl, rfl⟩ rfl rfl rfl rfl rfl (by kernel_rfl) Try.func6 (by kernel_rfl)
    (of_decide_eq_true (by kernel_rfl)) (by unfold Func.isWrapper; first | (rw [if_pos (by decide +kernel)]; kernel_rfl) | (rw [if_neg (by decide +kernel)]; exact ⟨rfl, rfl⟩))
    (fun os started H enc _ => placeAdds_lifted os started H enc)
theorem placeAdds_proved : Rows.PlaceAddsSaid := placeAdds_over
#print axioms placeAdds_proved
end Go.Proofs.Ytbicnkopmamnpaa
