/- Joined from: PlS. -/
import Derived.Test.YtbicnkopmamnpaaJ01
import Derived.Test.YtbicnkopmamnpaaJ05
section

/- Layer 21's speaks; places in memory beside a list of places that lies apart. No condition. -/
namespace Go.Proofs.Ytbicnkopmamnpaa
open Go.RowKit Go.Lib

theorem eqPn (w : World) (p : Addr) : (binOp .eql 78 (.pointer (some p)) (.pointer none)).run Try.prog w = .ok (.bool false) w := by kernel_rfl
/-- A list of places that is apart from others. -/
structure WPl (g : Nat) (a : Option Addr) (l : List Pl) (v : Value) (w : World) : Prop where
  ex : ∃ aW cW, v = .slice aW l.length cW ∧ Has w aW (pv l) ∧ (aW = none → cW = 0) ∧ l.length ≤ cW ∧ (∀ p, aW = some p → p.block < w.heap.size) ∧ (∀ p, aW = some p → p.block ≠ g) ∧ ∀ p q, aW = some p → a = some q → p.block ≠ q.block
theorem WPl.below {g : Nat} {a : Option Addr} {l : List Pl} {v : Value} {w w' : World} (h : WPl g a l v w) (hb : Below w.heap.size w w') : WPl g a l v w' := by
  obtain ⟨aW, cW, h1, h2, h3, h4, h5, h6, h7⟩ := h.ex
  exact ⟨aW, cW, h1, h2.below hb, h3, h4, fun p hp => Nat.lt_of_lt_of_le (h5 p hp) hb.size, h6, h7⟩
theorem WPl.step {B g : Nat} {a : Option Addr} {l : List Pl} {v : Value} {w w' : World} (h : WPl g a l v w) (hs : GStep B g a a w w') : WPl g a l v w' := by
  obtain ⟨aW, cW, h1, h2, h3, h4, h5, h6, h7⟩ := h.ex
  exact ⟨aW, cW, h1, hs.has h2 h6 h7, h3, h4, fun p hp => Nat.lt_of_lt_of_le (h5 p hp) hs.below.size, h6, h7⟩
theorem WPl.own {B g : Nat} {d : Bool} {a : Option Addr} {c : Nat} {l r : List Pl} {v : Value} {w w' : World} (hg : PlIs B g d a c r w) (h : PlRow w.heap.size l v w') : WPl g a l v w' := by
  obtain ⟨aW, cW, h1, h2⟩ := h
  obtain ⟨a', c', he, k1, k2, k3⟩ := owns_slice h2
  injection he with e1 e2 e3
  subst e1 e3
  refine ⟨aW, cW, h1, has_of_owns h2, k3, k1, fun p hp => (h2.lt p.block (by rw [hp]; rfl)).2, fun p hp => ?_, fun p q hp hq => ?_⟩
  · have := (h2.lt p.block (by rw [hp]; rfl)).1
    have := (Array.getElem?_eq_some_iff.1 hg.hd).1
    omega
  · have := (h2.lt p.block (by rw [hp]; rfl)).1
    have := (hg.row.lt q.block (by rw [hq]; rfl)).2
    omega

set_option maxHeartbeats 3200000 in
set_option maxRecDepth 100000 in
theorem speaks21_any (w : World) : Calls Try.prog 33 #[] w fun e w' => e = .returned (.bool true) ∧ Below w.heap.size w w' := by
  have hAC := allocC
  have hAF := allocF
  have hEQ := eqPn
  have hN := Lib.hid (pnew_any 0 (some ⟨w.heap.size, 0, none⟩) 2 2 [5, 7] (w.alloc (.cells #[.int .i64 5, .int .i64 7] 3)) (has_alloc w _ _) rfl (by decide))
  have e1 : newP [5, 7] = [(5, 0, 0), (7, 0, 0)] := by decide
  have e2 : moreP [(5, 0, 0), (7, 0, 0)] 0 3 0 0 = [(8, 0, 0), (7, 0, 0)] := by decide
  have e3 : acrossP (decide ((0 : Int) = 2)) [(8, 0, 0), (7, 0, 0)] 1 (-2) = [(8, 0, 0), (7, 0, -2)] := by decide
  have i1 : In32 [(5, 0, 0), (7, 0, 0)] := by intro p hp; simp at hp; rcases hp with rfl | rfl <;> simp
  have i2 : In32 [(8, 0, 0), (7, 0, 0)] := by intro p hp; simp at hp; rcases hp with rfl | rfl <;> simp
  have HAD := Lib.hid (fun W => add_any 2147483647 1 (by omega) W)
  have e4 : addZ 2147483647 1 = 2147483647 := by decide
  rw [e4] at HAD
  rw [e1] at hN
  go_enter Try.func33, Try.ntmps33
  go_wp2_with (first
    | (go_at_call 38; refine hN.out.mono ?_; rintro e w1 ⟨g, a1, c1, rfl, hG, hg, hb1⟩; have HG1 := Lib.hid (hG.mono (by simp : w.heap.size ≤ _)); have HB1 := Lib.hid ((balloc (brefl w) (.cells #[.int .i64 5, .int .i64 7] 3)).trans (hb1.mono (by simp))); have hz1 := HB1.out.size; have hgw := (Array.getElem?_eq_some_iff.1 hG.hd).1; clear hG hb1)
    | (go_at_call 51; (with_reducible refine (plen_any w.heap.size g _ a1 c1 _ _ HG1.out).mono ?_); rintro e w_ ⟨rfl, rfl⟩)
    | (go_at_call 40; (with_reducible refine (palong_any w.heap.size g _ a1 c1 _ 0 3 w1 HG1.out i1).mono ?_); rintro e w2 ⟨rfl, hG, hS⟩; rw [e2] at hG; have HG2 := Lib.hid hG; have HB2 := Lib.hid (HB1.out.trans hS.below); clear hG hS)
    | (go_at_call 42; (with_reducible refine (pcross_any w.heap.size g _ a1 c1 _ 1 (-2) w2 HG2.out i2).mono ?_); rintro e w3 ⟨rfl, hG, hS⟩; rw [e3] at hG; have HG3 := Lib.hid hG; have HB3 := Lib.hid (HB2.out.trans hS.below); clear hG hS)
    | (go_at_call 50; (with_reducible refine (pall_any w.heap.size g _ a1 c1 _ w3 HG3.out (by decide)).mono ?_); rintro e w4 ⟨a4, c4, rfl, ho, _, _, _, hb4⟩; have HB4 := Lib.hid (HB3.out.trans (hb4.mono HB3.out.size)); obtain ⟨g4, hg4⟩ : ∃ g4, a4 = some ⟨g4, 0, none⟩ := (row_at ho 0 (by decide)).imp fun _ h => h.choose_spec.choose_spec.1; subst hg4; have k0 := ho.cellAt 0 (by decide); have k1 := ho.cellAt 1 (by decide); have k2 := ho.cellAt 2 (by decide); have k3 := ho.cellAt 3 (by decide); have k4 := ho.cellAt 4 (by decide); have k5 := ho.cellAt 5 (by decide); simp only [pv, pl1, List.flatMap_cons, List.flatMap_nil, List.append_nil, List.cons_append, List.nil_append, List.getElem?_cons_zero, List.getElem?_cons_succ] at k0 k1 k2 k3 k4 k5; have k4l := cell_lt k0; simp only at k4l; clear ho hb4)
    | (go_at_call 36; (with_reducible refine (HAD.out _).mono ?_); rintro e w_ ⟨rfl, rfl⟩))
  go_ret
  exact ⟨by first | rfl | simp, HB4.out⟩
end Go.Proofs.Ytbicnkopmamnpaa
end
