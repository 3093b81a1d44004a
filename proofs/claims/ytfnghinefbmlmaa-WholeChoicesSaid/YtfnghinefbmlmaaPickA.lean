
/- Package pick: settings, their order, and sorting them. Conditions: as each says. -/
import Derived.Test.YtfnghinefbmlmaaGBase
import Derived.Test.YtfnghinefbmlmaaShelfG
namespace Go.Proofs.Ytfnghinefbmlmaa
open Go.RowKit Go.Shelf Go.Lib Go.Sort

abbrev St := Int × Int
def stV (s : St) : Value := .agg #[.int .i64 s.1, .int .i64 s.2]
def encS (s : St) : List Value := [.int .i64 s.1, .int .i64 s.2]
def inW (n : Int) : Bool := decide (0 ≤ n) && decide (n ≤ 65535)
def rightS (s : St) : Bool := inW s.1 && inW s.2
theorem within_any (n : Int) (w : World) : Calls Try.prog 37 #[.int .i64 n] w fun e w' => e = .returned (.bool (inW n)) ∧ w = w' := by
  by_cases h0 : 0 ≤ n
  · by_cases h1 : n ≤ 65535
    · have d : inW n = true := by simp [inW, h0, h1]
      rw [d]
      have d1 : decide (n ≤ 65535) = true := by simpa using h1
      go_enter Try.func37, Try.ntmps37
      go_wp2_with fail
      go_ret
      exact ⟨rfl, rfl⟩
    · have d : inW n = false := by simp [inW, h1]
      rw [d]
      have d1 : decide (n ≤ 65535) = false := by simpa using h1
      go_enter Try.func37, Try.ntmps37
      go_wp2_with fail
      go_ret
      exact ⟨rfl, rfl⟩
  · have d : inW n = false := by simp [inW, h0]
    rw [d]
    have d1 : decide (0 ≤ n) = false := by simpa using h0
    go_enter Try.func37, Try.ntmps37
    go_wp2_with fail
    go_ret
    exact ⟨rfl, rfl⟩
theorem right_any (s : St) (w : World) : Calls Try.prog 20 #[.agg #[.int .i64 s.1, .int .i64 s.2]] w fun e w' => e = .returned (.bool (rightS s)) ∧ Below w.heap.size w w' := by
  have hAC := allocC
  have hAF := allocF
  obtain ⟨a, b⟩ := s
  have HA := Lib.hid (fun W => within_any a W)
  have HB := Lib.hid (fun W => within_any b W)
  have HR := Lib.hid (show rightS (a, b) = (inW a && inW b) from rfl)
  generalize rightS (a, b) = r at *
  generalize inW b = y at *
  cases hx : inW a with
  | false =>
    obtain rfl : r = false := by rw [HR.out, hx]; rfl
    rw [hx] at HA
    clear HR hx
    go_enter Try.func20, Try.ntmps20
    go_wp2_with (first | (go_at_call 37; (with_reducible refine (HA.out _).mono ?_); rintro e w1 ⟨rfl, rfl⟩))
    go_ret
    exact ⟨rfl, blw⟩
  | true =>
    obtain rfl : r = y := by rw [HR.out, hx]; rfl
    rw [hx] at HA
    clear HR hx
    go_enter Try.func20, Try.ntmps20
    go_wp2_with (first | (go_at_call 37; (with_reducible refine (HA.out _).mono ?_); rintro e w1 ⟨rfl, rfl⟩) | (go_at_call 37; (with_reducible refine (HB.out _).mono ?_); rintro e w1 ⟨rfl, rfl⟩))
    go_ret
    exact ⟨rfl, blw⟩
def cmpI (x y : Int) : Int := if x < y then -1 else if y < x then 1 else 0
theorem isNaN_any (x : Int) (w : World) : Calls Try.prog 70 #[.int .i64 x] w fun e w' => e = .returned (.bool false) ∧ w = w' := by
  go_enter Try.func70, Try.ntmps70
  go_wp2_with fail
  go_ret
  exact ⟨by simp, rfl⟩
theorem compareI_any (x y : Int) (w : World) : Calls Try.prog 53 #[.int .i64 x, .int .i64 y] w fun e w' => e = .returned (.int .i64 (cmpI x y)) ∧ w = w' := by
  have HN := Lib.hid (fun z W => isNaN_any z W)
  by_cases h0 : x < y
  · have d : cmpI x y = -1 := by simp [cmpI, h0]
    rw [d]
    have d1 : decide (x < y) = true := by simpa using h0
    go_enter Try.func53, Try.ntmps53
    go_wp2_with (go_at_call 70; (with_reducible refine (HN.out _ _).mono ?_); rintro e w1 ⟨rfl, rfl⟩)
    go_ret
    exact ⟨rfl, rfl⟩
  · have d1 : decide (x < y) = false := by simpa using h0
    by_cases h1 : y < x
    · have d : cmpI x y = 1 := by simp [cmpI, h0, h1]
      rw [d]
      have d2 : decide (y < x) = true := by simpa using h1
      go_enter Try.func53, Try.ntmps53
      go_wp2_with (go_at_call 70; (with_reducible refine (HN.out _ _).mono ?_); rintro e w1 ⟨rfl, rfl⟩)
      go_ret
      exact ⟨rfl, rfl⟩
    · have d : cmpI x y = 0 := by simp [cmpI, h0, h1]
      rw [d]
      have d2 : decide (y < x) = false := by simpa using h1
      go_enter Try.func53, Try.ntmps53
      go_wp2_with (go_at_call 70; (with_reducible refine (HN.out _ _).mono ?_); rintro e w1 ⟨rfl, rfl⟩)
      go_ret
      exact ⟨rfl, rfl⟩
theorem or2_any (b o c : Nat) (x y : Int) (w : World) (h0 : w.cell? ⟨b, o, none⟩ = some (.int .i64 x)) (h1 : w.cell? ⟨b, o + 1, none⟩ = some (.int .i64 y)) :
    Calls Try.prog 52 #[.slice (some ⟨b, o, none⟩) 2 c] w fun e w' => e = .returned (.int .i64 (if x = 0 then y else x)) ∧ w = w' := by
  by_cases hx : x = 0
  · subst hx
    rw [if_pos rfl]
    by_cases hy : y = 0
    · subst hy
      go_enter Try.func52, Try.ntmps52
      go_wp2_with fail
      refine wp_loop_rounds 3 ?_
      rw [rounds_succ]
      go_wp2_with fail
      rw [rounds_succ]
      go_wp2_with fail
      rw [rounds_succ]
      go_wp2_with fail
      go_ret
      exact ⟨rfl, rfl⟩
    · have d : (y != 0) = true := by simpa using hy
      go_enter Try.func52, Try.ntmps52
      go_wp2_with fail
      refine wp_loop_rounds 3 ?_
      rw [rounds_succ]
      go_wp2_with fail
      rw [rounds_succ]
      go_wp2_with fail
      go_ret
      exact ⟨rfl, rfl⟩
  · rw [if_neg hx]
    have d : (x != 0) = true := by simpa using hx
    go_enter Try.func52, Try.ntmps52
    go_wp2_with fail
    refine wp_loop_rounds 3 ?_
    rw [rounds_succ]
    go_wp2_with fail
    go_ret
    exact ⟨rfl, rfl⟩
def cmpS (x y : St) : Int := if cmpI x.1 y.1 = 0 then cmpI x.2 y.2 else cmpI x.1 y.1
theorem comp_any (x y : St) (W : World) : Calls Try.prog 35 #[.agg #[.int .i64 x.1, .int .i64 x.2], .agg #[.int .i64 y.1, .int .i64 y.2]] W fun e w' => e = .returned (.int .i64 (cmpS x y)) ∧ ∃ q os', w' = grow (W.drewN q) os' := by
  have hAC := allocC
  have hAF := allocF
  obtain ⟨a, b⟩ := x
  obtain ⟨c, d⟩ := y
  have H1 := Lib.hid (fun W => compareI_any a c W)
  have H2 := Lib.hid (fun W => compareI_any b d W)
  have HO := Lib.hid (fun blk o cc (p q : Int) W h0 h1 => or2_any blk o cc p q W h0 h1)
  have HC := Lib.hid (show cmpS (a, b) (c, d) = if cmpI a c = 0 then cmpI b d else cmpI a c from rfl)
  generalize cmpS (a, b) (c, d) = R at *
  generalize cmpI a c = p at *
  generalize cmpI b d = q at *
  have HO2 := Lib.hid (fun (blk o cc : Nat) (W : World) (h0 : W.cell? ⟨blk, o, none⟩ = some (.int .i64 p)) (h1 : W.cell? ⟨blk, o + 1, none⟩ = some (.int .i64 q)) => (HO.out blk o cc p q W h0 h1).mono (R' := fun e w' => e = .returned (.int .i64 R) ∧ W = w') (fun e w' h => ⟨by rw [h.1, HC.out], h.2⟩))
  clear HO HC
  go_enter Try.func35, Try.ntmps35
  go_wp2_with fail
  obtain ⟨V, hV⟩ : ∃ V, V = (W.alloc (Obj.cells #[.int .i64 a, .int .i64 b] 44)).alloc (Obj.cells #[.int .i64 c, .int .i64 d] 44) := ⟨_, rfl⟩
  have z2 : V.heap[W.heap.size]? = some (.cells #[.int .i64 a, .int .i64 b] 44 (0, 0)) := by rw [hV, heap_push, if_neg (by simp), heap_push, if_pos rfl]
  have z3 : V.heap[W.heap.size + 1]? = some (.cells #[.int .i64 c, .int .i64 d] 44 (0, 0)) := by rw [hV, heap_push, if_pos (by simp)]
  rw [← hV]
  have HV := Lib.hid hV
  have q2 := fun o => cell_of_heap z2 o
  have q3 := fun o => cell_of_heap z3 o
  have l2 := (Array.getElem?_eq_some_iff.1 z2).1
  have l3 := (Array.getElem?_eq_some_iff.1 z3).1
  clear hV z2 z3
  refine wp_region_tree (.step 0 (.step 1 (.step 2 (.step 3 (.step 5 (.step 6 (.step 7 (.step 8 (.step 4 (.step 9 (.step 10 (.step 11 (.step 12 .nil))))))))))))) (by kernel_rfl) (by kernel_rfl) (by kernel_rfl) (by kernel_rfl) (by intro _ _ d_ _ _ h_; cases d_ <;> first | exact h_ | (dsimp +zetaDelta only at h_ ⊢; exact h_)) (fun w' => ∃ p : Wld V [], w' = p.val) (wld_start _ _) ?_
  have hG_ := @wldC V
  (refine tree_quiet (by simp only [List.getElem?_toArray, List.getElem?_cons_succ, List.getElem?_cons_zero]; rfl) (by rfl) (by rfl) (fun K_ hK_ => ?_); go_big_quiet_op; refine hK_ _ ?_; clear hK_ K_)
  (refine tree_quiet (by simp only [List.getElem?_toArray, List.getElem?_cons_succ, List.getElem?_cons_zero]; rfl) (by rfl) (by rfl) (fun K_ hK_ => ?_); go_big_quiet_op; refine hK_ _ ?_; clear hK_ K_)
  (refine tree_quiet (by simp only [List.getElem?_toArray, List.getElem?_cons_succ, List.getElem?_cons_zero]; rfl) (by rfl) (by rfl) (fun K_ hK_ => ?_); go_big_quiet_op; refine hK_ _ ?_; clear hK_ K_)
  (refine tree_quiet (by simp only [List.getElem?_toArray, List.getElem?_cons_succ, List.getElem?_cons_zero]; rfl) (by rfl) (by rfl) (fun K_ hK_ => ?_); go_big_quiet_op; refine hK_ _ ?_; clear hK_ K_)
  (refine tree_quiet (by simp only [List.getElem?_toArray, List.getElem?_cons_succ, List.getElem?_cons_zero]; rfl) (by rfl) (by rfl) (fun K_ hK_ => ?_); go_big_quiet_op; refine hK_ _ ?_; clear hK_ K_)
  (refine tree_quiet (by simp only [List.getElem?_toArray, List.getElem?_cons_succ, List.getElem?_cons_zero]; rfl) (by rfl) (by rfl) (fun K_ hK_ => ?_); go_big_quiet_op; refine hK_ _ ?_; clear hK_ K_)
  (refine tree_quiet (by simp only [List.getElem?_toArray, List.getElem?_cons_succ, List.getElem?_cons_zero]; rfl) (by rfl) (by rfl) (fun K_ hK_ => ?_); go_big_quiet_op; refine hK_ _ ?_; clear hK_ K_)
  (refine tree_quiet (by simp only [List.getElem?_toArray, List.getElem?_cons_succ, List.getElem?_cons_zero]; rfl) (by rfl) (by rfl) (fun K_ hK_ => ?_); go_big_quiet_op; refine hK_ _ ?_; clear hK_ K_)
  (refine tree_run (by simp only [List.getElem?_toArray, List.getElem?_cons_succ, List.getElem?_cons_zero]; rfl) (by rfl) (by rfl) (fun K_ hK_ => ?_); have HK_ := Lib.hid hK_; clear hK_; go_wp2_with (first | (go_at_call 53; (with_reducible refine (H1.out _).mono ?_); rintro e w1 ⟨rfl, rfl⟩) | (go_at_call 53; (with_reducible refine (H2.out _).mono ?_); rintro e w1 ⟨rfl, rfl⟩) | (go_at_call 52; (with_reducible refine (HO2.out _ _ _ _ (by simp [hAC]) (by simp [hAC])).mono ?_); rintro e w1 ⟨rfl, rfl⟩)); refine HK_.out _ _ (wld_ofA) ?_; clear HK_)
  (refine tree_run (by simp only [List.getElem?_toArray, List.getElem?_cons_succ, List.getElem?_cons_zero]; rfl) (by rfl) (by rfl) (fun K_ hK_ => ?_); have HK_ := Lib.hid hK_; clear hK_; go_wp2_with (first | (go_at_call 53; (with_reducible refine (H1.out _).mono ?_); rintro e w1 ⟨rfl, rfl⟩) | (go_at_call 53; (with_reducible refine (H2.out _).mono ?_); rintro e w1 ⟨rfl, rfl⟩) | (go_at_call 52; (with_reducible refine (HO2.out _ _ _ _ (by simp [hAC]) (by simp [hAC])).mono ?_); rintro e w1 ⟨rfl, rfl⟩)); refine HK_.out _ _ (wld_ofA) ?_; clear HK_)
  (refine tree_run (by simp only [List.getElem?_toArray, List.getElem?_cons_succ, List.getElem?_cons_zero]; rfl) (by rfl) (by rfl) (fun K_ hK_ => ?_); have HK_ := Lib.hid hK_; clear hK_; go_wp2_with (first | (go_at_call 53; (with_reducible refine (H1.out _).mono ?_); rintro e w1 ⟨rfl, rfl⟩) | (go_at_call 53; (with_reducible refine (H2.out _).mono ?_); rintro e w1 ⟨rfl, rfl⟩) | (go_at_call 52; (with_reducible refine (HO2.out _ _ _ _ (by simp [hAC]) (by simp [hAC])).mono ?_); rintro e w1 ⟨rfl, rfl⟩)); refine HK_.out _ _ (wld_ofA) ?_; clear HK_)
  (refine tree_run (by simp only [List.getElem?_toArray, List.getElem?_cons_succ, List.getElem?_cons_zero]; rfl) (by rfl) (by rfl) (fun K_ hK_ => ?_); have HK_ := Lib.hid hK_; clear hK_; go_wp2_with (first | (go_at_call 53; (with_reducible refine (H1.out _).mono ?_); rintro e w1 ⟨rfl, rfl⟩) | (go_at_call 53; (with_reducible refine (H2.out _).mono ?_); rintro e w1 ⟨rfl, rfl⟩) | (go_at_call 52; (with_reducible refine (HO2.out _ _ _ _ (by simp [hAC]) (by simp [hAC])).mono ?_); rintro e w1 ⟨rfl, rfl⟩)); refine HK_.out _ _ (wld_ofA) ?_; clear HK_)
  (refine tree_quiet (by simp only [List.getElem?_toArray, List.getElem?_cons_succ, List.getElem?_cons_zero]; rfl) (by rfl) (by rfl) (fun K_ hK_ => ?_); go_big_quiet_op; refine hK_ _ ?_; clear hK_ K_)
  refine tree_nil ?_
  clear hG_
  go_wp2_with fail
  go_ret
  exact ⟨rfl, 1, _, by rw [HV.out, alloc_eq_grow, alloc_eq_grow, alloc_eq_grow, grow_grow, grow_grow]; rfl⟩
end Go.Proofs.Ytfnghinefbmlmaa
