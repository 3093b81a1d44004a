
/- Layer 11's speaks; cells of a row of glyphs of the call's own. No condition. -/
import Derived.Test.YtjkddbbjbfajaaaGIns3
namespace Go.Proofs.Ytjkddbbjbfajaaa
open Go.RowKit Go.Lib

theorem eqLn (w : World) (p : Addr) : (binOp .eql 26 (.pointer (some p)) (.pointer none)).run Try.prog w = .ok (.bool false) w := by kernel_rfl

set_option maxHeartbeats 1600000 in
set_option maxRecDepth 100000 in
theorem speaks11_any (w : World) : Calls Try.prog 7 #[] w fun e w' => e = .returned (.bool true) ∧ Below w.heap.size w w' := by
  have hAC := allocC
  have hAF := allocF
  have hEQ := eqLn
  have hN := Lib.hid (gnew_any (some ⟨w.heap.size, 0, none⟩) 2 2 [5, 7] (w.alloc (.cells #[.int .i64 5, .int .i64 7] 3)) (has_alloc w _ _) rfl (by decide))
  have e1 : newG [5, 7] = [(5, 0), (7, 1)] := by rfl
  have e2 : insG [(5, 0), (7, 1)] 2 [9] = [(5, 0), (7, 1), (9, 1)] := by decide
  have e3 : okI [(5, 0), (7, 1)] 2 = true := by decide
  have e4 : atG [(5, 0), (7, 1), (9, 1)] 2 = (9, 1) := by decide
  have e5 : inG [(5, 0), (7, 1), (9, 1)] 2 = true := by decide
  rw [e1] at hN
  go_enter Try.func7, Try.ntmps7
  go_wp2_with (first
    | (go_at_call 9; refine hN.out.mono ?_; rintro e w1 ⟨g, a1, c1, rfl, hG, hg, hb1⟩; have HG1 := Lib.hid hG; have HB1 := Lib.hid ((balloc (brefl w) (.cells #[.int .i64 5, .int .i64 7] 3)).trans (hb1.mono (by simp))); have hz1 := hb1.size; simp only [World.size_alloc] at hg hz1; have hgw := (Array.getElem?_eq_some_iff.1 hG.hd).1; clear hG hb1)
    | (go_at_call 19; refine (gins_any w.heap.size g a1 c1 [(5, 0), (7, 1)] 2 (some ⟨w1.heap.size, 0, none⟩) 1 1 [9] _ ((HG1.out.mono (by simp)).below (balloc (brefl w1) (.cells #[.int .i64 9] 3))) (has_alloc w1 _ _) rfl (by omega) (by simp; omega) (by decide) (by decide)).mono ?_; rintro e w2 ⟨a2, c2, rfl, hG, hS⟩; rw [e2] at hG; rw [e3]; have HG2 := Lib.hid hG; have HB2 := Lib.hid ((HB1.out.alloc HB1.out.size (.cells #[.int .i64 9] 3)).trans hS.below); clear hG hS)
    | (go_at_call 14; (with_reducible refine (glen_any w.heap.size g a2 c2 _ _ HG2.out).mono ?_); rintro e w_ ⟨rfl, rfl⟩)
    | (go_at_call 15; refine (gat_any w.heap.size g a2 c2 _ _ HG2.out 2).mono ?_; rintro e w3 ⟨rfl, hb3⟩; rw [e4, e5]; have HG3 := Lib.hid (HG2.out.below hb3); have HB3 := Lib.hid (HB2.out.trans (hb3.mono HB2.out.size)); clear hb3; simp only [glyphA])
    | (go_at_call 13; refine (gglyphs_any w.heap.size g a2 c2 _ _ (HG3.out.below (by exact blw)) (by decide)).mono ?_; rintro e w4 ⟨a4, c4, rfl, ho, _, _, _, hb4⟩; have HB4 := Lib.hid hb4; clear ho hb4))
  go_ret
  have hz3 := HB3.out.size
  exact ⟨rfl, (HB3.out.alloc hz3 _).trans (HB4.out.mono (by simp only [World.size_alloc]; omega))⟩
end Go.Proofs.Ytjkddbbjbfajaaa
