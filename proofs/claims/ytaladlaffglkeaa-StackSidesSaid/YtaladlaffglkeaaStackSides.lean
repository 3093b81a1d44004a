
/- The walk of StackSides. StackSides returns true for every plan, line and way, and changes nothing: what moves along the line stands off nowhere; what stands off across it moves on as it did. No condition beside the row's own. -/
import Derived.Test.YtaladlaffglkeaaJ01
import Derived.Test.YtaladlaffglkeaaJ20
namespace Go.Proofs.Ytaladlaffglkeaa
open Go.RowKit Go.Lib

set_option maxRecDepth 100000 in
set_option maxHeartbeats 12800000 in
theorem stackSides_walk (p : PlanL) (aC aR aE : Option Addr) (rv : List Value) (cC cR cE : Nat) (aL : Option Addr) (cL : Nat) (vs : List Int) (aI : Option Addr) (nI cI : Nat) (ids : List Int) (dz : Int) (cr : Bool) (w : World) (hP : PlanHas w p aC aR rv aE) (hw : ∀ e ∈ p.ents, wfI e.1 ∧ wfI e.2.1 ∧ wfI e.2.2.1 ∧ wfI e.2.2.2)
    (hS : Has w aL (i16V vs)) (h16 : ∀ x ∈ vs, -32768 ≤ x ∧ x ≤ 32767) (hi : Has w aI (iv ids)) (hil : ids.length = nI) (hiw : ∀ z ∈ ids, -9223372036854775808 ≤ z ∧ z ≤ 9223372036854775807) :
    Calls Try.prog 6 #[.agg #[.slice aC p.cls.length cC, .slice aR p.rows.length cR, .slice aE p.ents.length cE, .int .u8 (p.wide.toNat : Nat), .slice aL vs.length cL], .slice aI nI cI, .agg #[.int .i64 dz, .bool cr]] w fun e w' => e = .returned (.bool true) ∧ Below w.heap.size w w' := by
  have hAC := allocC
  have hAF := allocF
  have HSP := Lib.hid (fun W (_ : Below w.heap.size w W) => speaks23_any W)
  have hsm := fun W (_ : Below w.heap.size w W) => small23_any aC aR aE aL aI p.cls.length p.rows.length p.ents.length vs.length nI cC cR cE cL cI (p.wide.toNat : Int) W
  have HI := Lib.hid hi
  have HIL := Lib.hid hil
  have HIW := Lib.hid hiw
  by_cases hs : Sm23 p.cls.length p.rows.length p.ents.length vs.length nI
  case neg =>
    have HSM := Lib.hid (fun W (hW : Below w.heap.size w W) => (hsm W hW).mono (R' := fun e w' => e = .returned (.bool false) ∧ Below W.heap.size W w') (by
      rintro e w' ⟨⟨b, rfl, hb⟩, hb2⟩
      refine ⟨?_, hb2⟩
      cases b with
      | false => rfl
      | true => exact absurd (hb.1 rfl) hs))
    clear hsm hs hP hw hS h16 hi hil hiw
    generalize p.cls.length = nC at *
    generalize p.rows.length = nR at *
    generalize p.ents.length = nE at *
    generalize vs.length = nL at *
    generalize (p.wide.toNat : Int) = wd at *
    go_enter Try.func6, Try.ntmps6
    go_wp2_with (first | (go_at_call 27; (with_reducible refine (HSP.out _ (by exact blw)).mono ?_); rintro e w1 ⟨rfl, hb1⟩; have h1c := bc hb1; have h1f := bf hb1; have h1z := hb1.size; try simp only [World.size_alloc, World.size_drew] at h1z) | (go_at_call 28; (with_reducible refine (HSM.out _ (by exact blw)).mono ?_); rintro e w2 ⟨rfl, hb2⟩; have h2c := bc hb2; have h2f := bf hb2; have h2z := hb2.size; try simp only [World.size_alloc, World.size_drew] at h2z))
    go_ret
    exact ⟨rfl, blw⟩
  have HSM := Lib.hid (fun W (hW : Below w.heap.size w W) => (hsm W hW).mono (R' := fun e w' => e = .returned (.bool true) ∧ Below W.heap.size W w') (by
    rintro e w' ⟨⟨b, rfl, hb⟩, hb2⟩
    refine ⟨?_, hb2⟩
    rw [hb.2 hs]))
  obtain ⟨hs1, hs2, hs3, hs4, hs7⟩ := hs
  have HWR := Lib.hid (fun W (hW : Below w.heap.size w W) => write23_any p aC aR aE rv cC cR cE aL vs.length cL vs W (hP.below hW) (by omega) (by omega) (by omega) hw (hS.below hW) rfl (by omega) h16)
  have hn2 : (stackB p vs).length ≤ 3000 := by
    have h1 := stackB_length (p := p) vs
    have h2 := planL3 (p := p)
    have h3 : p.n ≤ 11 := by unfold PlanL.n; omega
    have h4 : p.rows.length * p.n ≤ 220 := Nat.le_trans (Nat.mul_le_mul hs2 h3) (by decide)
    omega
  generalize hbs : stackB p vs = bs at *
  obtain ⟨nB, hnB⟩ : ∃ nB, nB = bs.length := ⟨_, rfl⟩
  rw [← hnB] at HWR hn2
  have HL := Lib.hid hnB.symm
  clear hsm hs1 hs2 hs3 hs4 hP hw hS h16 hi hil hiw hbs hnB
  generalize p.cls.length = nC at *
  generalize p.rows.length = nR at *
  generalize p.ents.length = nE at *
  generalize vs.length = nL at *
  generalize (p.wide.toNat : Int) = wd at *
  have HADV := Lib.hid (fun W => advances_any aI nI cI W (by omega))
  by_cases hok : ∃ rs S, QOk bs 40 rs S
  case neg =>
    have hno : ∀ rs S, ¬ QOk bs 40 rs S := fun rs S h => hok ⟨rs, S, h⟩
    have HRD := Lib.hid (fun a c W (hW : Has W a (bytesV bs)) => qread_none a nB c bs 40 40 rfl W hW HL.out (by omega) (by decide) (by decide) hno)
    clear hok hno
    go_enter Try.func6, Try.ntmps6
    go_wp2_with (first
      | (go_at_call 27; (with_reducible refine (HSP.out _ (by exact blw)).mono ?_); rintro e w1 ⟨rfl, hb1⟩; have h1c := bc hb1; have h1f := bf hb1; have h1z := hb1.size; try simp only [World.size_alloc, World.size_drew] at h1z)
      | (go_at_call 28; (with_reducible refine (HSM.out _ (by exact blw)).mono ?_); rintro e w2 ⟨rfl, hb2⟩; have h2c := bc hb2; have h2f := bf hb2; have h2z := hb2.size; try simp only [World.size_alloc, World.size_drew] at h2z)
      | (go_at_call 30; (with_reducible refine (HWR.out _ (by exact blw)).mono ?_); rintro e w3 ⟨a1, c1, rfl, hown, k11, k12, k13, hb3⟩; have HHb := Lib.hid (has_of_owns hown); have h3z := hb3.size; clear hown)
      | (go_at_call 29; (with_reducible refine (HRD.out _ _ _ HHb.out).mono ?_); rintro e w4 ⟨rfl, hb4⟩; have h4z := hb4.size))
    go_ret
    exact ⟨rfl, blw⟩
  obtain ⟨rs, S, hok⟩ := hok
  have HRD := Lib.hid (fun a c W (hW : Has W a (bytesV bs)) => qread_some a nB c bs 40 40 rfl rs S W hW HL.out (by omega) (by decide) (by decide) hok)
  have hd : ∃ d, d = decide (dz = 2) := ⟨_, rfl⟩
  obtain ⟨d, hd⟩ := hd
  have HRUN := Lib.hid (fun (Bm gt gl : Nat) (a : Option Addr) (c : Nat) (Bl gp : Nat) (ap : Option Addr) (cp : Nat) (W : World) (hT : QIs 0 Bm gt bs rs S W) (hG : GIs Bl gl a c (newG ids) W) (hP : PlIs w.heap.size gp d ap cp (newP (advL nI)) W) (hB : w.heap.size ≤ W.heap.size) => qrun_any 0 Bm gt bs 40 rs S w.heap.size Bl gl a c (newG ids) gp d cr ap cp (newP (advL nI)) W hT hok (by decide) (by decide) (Nat.zero_le _) hG hP (newP_in _) hB (newG_idsC HIW.out) (by rw [newG_length, HIL.out]; omega))
  have hRL : (stackD bs rs (bs.drop (num bs 16 4)) d cr (newG ids) (newP (advL nI))).1.2.length = nI := by rw [(stackD_ok bs rs _ _ _ _ _ (newP_in _)).2, newP_length, advL_length]
  have hST := stackD_stays bs rs (bs.drop (num bs 16 4)) d cr (newG ids) (newP (advL nI)) (newP_in _)
  have hIN := (stackD_ok bs rs (bs.drop (num bs 16 4)) d cr (newG ids) (newP (advL nI)) (newP_in _)).1
  generalize stackD bs rs (bs.drop (num bs 16 4)) d cr (newG ids) (newP (advL nI)) = RR at *
  obtain ⟨⟨_, R⟩, _, E⟩ := RR
  simp only at HRUN hRL hST hIN
  have HFA := Lib.hid (show ∀ (j : Nat) (q : Pl), R[j]? = some q → (cr = true → q.1 = 100 * (j : Int)) ∧ (cr = false → q.2.1 = 0 ∧ q.2.2 = 0) ∧ (dz = 2 → q.2.2 = 0) ∧ (dz ≠ 2 → q.2.1 = 0) from fun j q hq => by
    have hj : j < nI := by rw [← hRL]; exact (List.getElem?_eq_some_iff.1 hq).1
    have h0 : (newP (advL nI))[j]? = some (100 * (j : Int), 0, 0) := by
      rw [newP, List.getElem?_map, advL, List.getElem?_map, List.getElem?_range hj]
      show some (clampZ (100 * (j : Int)), (0 : Int), (0 : Int)) = _
      rw [clampZ_id (by omega)]
    obtain ⟨h1, h2, h3, h4⟩ := hST j _ q h0 hq
    refine ⟨h1, fun e => ?_, fun e => h3 (by rw [hd]; simp [e]), fun e => h4 (by rw [hd]; simp [e])⟩
    have := h2 e
    rw [this]
    exact ⟨rfl, rfl⟩)
  have HIN := Lib.hid hIN
  have HD := Lib.hid hd
  clear hok hST hIN hd
  go_enter Try.func6, Try.ntmps6
  go_wp2_with fail
  obtain ⟨W, hW⟩ : ∃ W, W = (w.alloc (Obj.cells #[.slice aC nC cC, .slice aR nR cR, .slice aE nE cE, .int .u8 wd, .slice aL nL cL] 69)).alloc (Obj.cells #[.int .i64 dz, .bool cr] 71) := ⟨_, rfl⟩
  have hbW : Below w.heap.size w W := by rw [hW]; exact balloc (balloc (brefl w) _) _
  have z3 : W.heap[w.heap.size]? = some (.cells #[.slice aC nC cC, .slice aR nR cR, .slice aE nE cE, .int .u8 wd, .slice aL nL cL] 69 (0, 0)) := by rw [hW, heap_push, if_neg (by simp), heap_push, if_pos rfl]
  have z5 : W.heap[w.heap.size + 1]? = some (.cells #[.int .i64 dz, .bool cr] 71 (0, 0)) := by rw [hW, heap_push, if_pos (by simp)]
  have HBW := Lib.hid hbW
  have HZ5 := Lib.hid z5
  rw [← hW]
  clear hW hbW
  have q3 := fun o => cell_of_heap z3 o
  have l3 := (Array.getElem?_eq_some_iff.1 z3).1
  clear z3 z5
  go_wp2_with (first
      | (go_at_call 27; (with_reducible refine (HSP.out _ HBW.out).mono ?_); rintro e w1 ⟨rfl, hb1⟩; have h1c := bc hb1; have h1f := bf hb1; have h1z := hb1.size; have HB1 := Lib.hid (HBW.out.trans (hb1.mono HBW.out.size)))
      | (go_at_call 28; (with_reducible refine (HSM.out _ HB1.out).mono ?_); rintro e w2 ⟨rfl, hb2⟩; have h2c := bc hb2; have h2f := bf hb2; have h2z := hb2.size; have HB2 := Lib.hid (HB1.out.trans (hb2.mono HB1.out.size)))
      | (go_at_call 30; (with_reducible refine (HWR.out _ HB2.out).mono ?_); rintro e w3 ⟨a1, c1, rfl, hown, k11, k12, k13, hb3⟩; have HHb := Lib.hid (has_of_owns hown); have HB3 := Lib.hid (HB2.out.trans (hb3.mono HB2.out.size)); have h3z := hb3.size; clear hown)
      | (go_at_call 29; (with_reducible refine (HRD.out _ _ _ HHb.out).mono ?_); rintro e w4 ⟨gt, rfl, hT, hb4⟩; have HT := Lib.hid hT; have HB4 := Lib.hid (HB3.out.trans (hb4.mono HB3.out.size)); have hbW4 := bthen (bthen (bthen hb1 hb2) hb3) hb4; have z54 := (hbW4.block _ (Array.getElem?_eq_some_iff.1 HZ5.out).1).trans HZ5.out; clear hT))
  have HZ54 := Lib.hid z54
  have q50 := cell_of_heap z54 0
  have q51 := cell_of_heap z54 1
  simp only [List.getElem?_toArray, List.getElem?_cons_zero, List.getElem?_cons_succ] at q50 q51
  have l54 := (Array.getElem?_eq_some_iff.1 z54).1
  clear q3 l3 h1c h1f h2c h2f z54
  refine wp_region_tree (.step 0 (.step 1 (.step 2 (.step 3 (.step 4 (.step 5 .nil)))))) (by kernel_rfl) (by kernel_rfl) (by kernel_rfl) (by kernel_rfl) (by intro _ _ d_ _ _ h_; cases d_ <;> first | exact h_ | (dsimp +zetaDelta only at h_ ⊢; exact h_)) (fun w' => ∃ p : Wld w4 [], w' = p.val) (wld_start _ _) ?_
  have hG_ := @wldC w4
  (refine tree_quiet gtA (by rfl) (by rfl) (fun K_ hK_ => ?_); go_big_quiet_op; refine hK_ _ ?_; clear hK_ K_)
  (refine tree_quiet gtA (by rfl) (by rfl) (fun K_ hK_ => ?_); go_big_quiet_op; refine hK_ _ ?_; clear hK_ K_)
  (refine tree_quiet gtA (by rfl) (by rfl) (fun K_ hK_ => ?_); go_big_quiet_op; refine hK_ _ ?_; clear hK_ K_)
  (refine tree_run gtA (by rfl) (by rfl) (fun K_ hK_ => ?_); have HK_ := Lib.hid hK_; clear hK_; go_wp2_with (first
    | (go_at_call 32; (with_reducible refine (HADV.out _).mono ?_); rintro e w5 ⟨a5, c5, rfl, ho5, hb5⟩; have HH5 := Lib.hid (has_of_owns ho5); have hb45 : Below w4.heap.size w4 w5 := (by exact blw); have HB5 := Lib.hid (HB4.out.trans (hb45.mono HB4.out.size)); have HT5 := Lib.hid (HT.out.below hb45); have HZ55 := Lib.hid ((hb45.block _ (Array.getElem?_eq_some_iff.1 HZ54.out).1).trans HZ54.out); clear ho5)
    | (go_at_call 31; (with_reducible refine (pnew_any dz a5 nI c5 (advL nI) _ (HH5.out.below (Below.mono (w := w5) (by exact blw) (Nat.le_refl _))) (advL_length nI) (by omega)).mono ?_); rintro e w6 ⟨gp, ap, cp, rfl, hP, hgp, hb6⟩; rw [← HD.out] at hP; have HP6 := Lib.hid hP; have hb56 : Below w5.heap.size w5 w6 := (by exact blw); have HB6 := Lib.hid (HB5.out.trans (hb56.mono HB5.out.size)); have HT6 := Lib.hid (HT5.out.below hb56); have HZ56 := Lib.hid ((hb56.block _ (Array.getElem?_eq_some_iff.1 HZ55.out).1).trans HZ55.out); clear hP hgp)); refine HK_.out _ _ (wld_ofA) ?_; clear HK_)
  (refine tree_run gtA (by rfl) (by rfl) (fun K_ hK_ => ?_); have HK_ := Lib.hid hK_; clear hK_; go_wp2_with (first
    | (go_at_call 32; (with_reducible refine (HADV.out _).mono ?_); rintro e w5 ⟨a5, c5, rfl, ho5, hb5⟩; have HH5 := Lib.hid (has_of_owns ho5); have hb45 : Below w4.heap.size w4 w5 := (by exact blw); have HB5 := Lib.hid (HB4.out.trans (hb45.mono HB4.out.size)); have HT5 := Lib.hid (HT.out.below hb45); have HZ55 := Lib.hid ((hb45.block _ (Array.getElem?_eq_some_iff.1 HZ54.out).1).trans HZ54.out); clear ho5)
    | (go_at_call 31; (with_reducible refine (pnew_any dz a5 nI c5 (advL nI) _ (HH5.out.below (Below.mono (w := w5) (by exact blw) (Nat.le_refl _))) (advL_length nI) (by omega)).mono ?_); rintro e w6 ⟨gp, ap, cp, rfl, hP, hgp, hb6⟩; rw [← HD.out] at hP; have HP6 := Lib.hid hP; have hb56 : Below w5.heap.size w5 w6 := (by exact blw); have HB6 := Lib.hid (HB5.out.trans (hb56.mono HB5.out.size)); have HT6 := Lib.hid (HT5.out.below hb56); have HZ56 := Lib.hid ((hb56.block _ (Array.getElem?_eq_some_iff.1 HZ55.out).1).trans HZ55.out); clear hP hgp)); refine HK_.out _ _ (wld_ofA) ?_; clear HK_)
  (refine tree_quiet gtA (by rfl) (by rfl) (fun K_ hK_ => ?_); go_big_quiet_op; refine hK_ _ ?_; clear hK_ K_)
  refine tree_nil ?_
  clear hG_
  have q60 := cell_of_heap HZ56.out 0
  have q61 := cell_of_heap HZ56.out 1
  simp only [List.getElem?_toArray, List.getElem?_cons_zero, List.getElem?_cons_succ] at q60 q61
  have l56 := (Array.getElem?_eq_some_iff.1 HZ56.out).1
  clear q50 q51 l54
  go_wp2_with fail
  refine wp_region_lastY (.step 0 (.step 1 (.step 3 (.step 4 (.step 5 (.step 2 (.step 6 .nil))))))) 6 (by kernel_rfl) (by kernel_rfl) (by kernel_rfl) (by kernel_rfl) (by kernel_rfl) (by intro _ _ d_ _ _ h_; cases d_ <;> first | exact h_ | (dsimp +zetaDelta only at h_ ⊢; exact h_)) (fun w' => ∃ p : Wld w6 [], w' = p.val) (wld_start _ _) ?_
  have hG_ := @wldC w6
  (refine z_quiet gtA (by rfl) (by rfl) (fun K_ hK_ => ?_); go_big_quiet_op; refine hK_ _ ?_; clear hK_ K_)
  (refine z_quiet gtA (by rfl) (by rfl) (fun K_ hK_ => ?_); go_big_quiet_op; refine hK_ _ ?_; clear hK_ K_)
  (refine z_quiet gtA (by rfl) (by rfl) (fun K_ hK_ => ?_); go_big_quiet_op; refine hK_ _ ?_; clear hK_ K_)
  (refine z_quiet gtA (by rfl) (by rfl) (fun K_ hK_ => ?_); go_big_quiet_op; refine hK_ _ ?_; clear hK_ K_)
  (refine z_quiet gtA (by rfl) (by rfl) (fun K_ hK_ => ?_); go_big_quiet_op; refine hK_ _ ?_; clear hK_ K_)
  (refine z_run gtA (by rfl) (by rfl) (fun K_ hK_ => ?_); have HK_ := Lib.hid hK_; clear hK_; go_wp2_with (first
    | (go_at_call 15; (with_reducible refine (gnew_any aI nI cI ids _ (HI.out.below (HB6.out.trans (Below.mono (w := w6) (by exact blw) HB6.out.size))) HIL.out (by omega)).mono ?_); rintro e w7 ⟨gx, ax, cx, rfl, hGx, hgx, hb7⟩; have hb67 : Below w6.heap.size w6 w7 := (by exact blw); have HGX := Lib.hid hGx; have HT7 := Lib.hid (HT6.out.below hb67); have HP7 := Lib.hid ((HP6.out.below hb67).mono HB5.out.size); have HB7 := Lib.hid (HB6.out.trans (hb67.mono HB6.out.size)); have HZ57 := Lib.hid ((hb67.block _ (Array.getElem?_eq_some_iff.1 HZ56.out).1).trans HZ56.out); clear hGx hgx)
    | (go_at_call 33; (with_reducible refine (HRUN.out _ _ _ _ _ _ _ _ _ w7 HT7.out HGX.out HP7.out HB7.out.size).mono ?_); rintro e w8 ⟨rfl, hp8, hk8⟩; have HP8 := Lib.hid hp8; have HB8 := Lib.hid (HB7.out.trans hk8.below); have HZ58 := Lib.hid ((hk8.kept _ _ _ _ HZ57.out (ownPl_no (by decide) (by decide) _)).trans HZ57.out); clear hp8 hk8)); refine HK_.out _ _ (wld_ofA) ?_; clear HK_)
  (refine z_last gtA (by rfl) (by rfl) (by rfl) (fun K_ hK_ => ?_); have HK_ := Lib.hid hK_; clear hK_; go_wp2_with (first
    | (go_at_call 15; (with_reducible refine (gnew_any aI nI cI ids _ (HI.out.below (HB6.out.trans (Below.mono (w := w6) (by exact blw) HB6.out.size))) HIL.out (by omega)).mono ?_); rintro e w7 ⟨gx, ax, cx, rfl, hGx, hgx, hb7⟩; have hb67 : Below w6.heap.size w6 w7 := (by exact blw); have HGX := Lib.hid hGx; have HT7 := Lib.hid (HT6.out.below hb67); have HP7 := Lib.hid ((HP6.out.below hb67).mono HB5.out.size); have HB7 := Lib.hid (HB6.out.trans (hb67.mono HB6.out.size)); have HZ57 := Lib.hid ((hb67.block _ (Array.getElem?_eq_some_iff.1 HZ56.out).1).trans HZ56.out); clear hGx hgx)
    | (go_at_call 33; (with_reducible refine (HRUN.out _ _ _ _ _ _ _ _ _ w7 HT7.out HGX.out HP7.out HB7.out.size).mono ?_); rintro e w8 ⟨rfl, hp8, hk8⟩; have HP8 := Lib.hid hp8; have HB8 := Lib.hid (HB7.out.trans hk8.below); have HZ58 := Lib.hid ((hk8.kept _ _ _ _ HZ57.out (ownPl_no (by decide) (by decide) _)).trans HZ57.out); clear hp8 hk8)); refine HK_.out _ _ ?_; clear HK_)
  refine z_nil ?_
  clear hG_
  (try dsimp only [Act.put])
  (try simp only [List.setIfInBounds_toArray, List.set_cons_succ, List.set_cons_zero])
  clear q60 q61 l56
  go_wp2_with (go_at_call 34; (with_reducible refine (pall_any w.heap.size gp d ap cp R _ HP8.out (by simp only [hRL]; omega)).mono ?_); rintro e w9 ⟨a9, c9, rfl, ho9, _, _, _, hb9⟩; have HO9 := Lib.hid (has_of_owns ho9); have HP9 := Lib.hid (HP8.out.below hb9); have HB9 := Lib.hid (HB8.out.trans (hb9.mono HB8.out.size)); have HZ59 := Lib.hid ((hb9.block _ (Array.getElem?_eq_some_iff.1 HZ58.out).1).trans HZ58.out); clear ho9 hb9)
  (try rw [hRL])
  go_loopw [41] (fun i wr => ∃ j : Nat, j ≤ nI ∧ i = .int .i64 (j : Nat) ∧ Below w9.heap.size w9 wr) (fun i _ => nI - (Go.RowKit.intOf i).toNat)
  case atStart => exact ⟨0, Nat.zero_le _, rfl, Below.refl _ _⟩
  case round =>
    obtain ⟨j, hj, rfl, hb⟩ := hrel
    rename World => wr
    have HBR := Lib.hid hb
    have hrz := hb.size
    have zr := (hb.block _ (Array.getElem?_eq_some_iff.1 HZ59.out).1).trans HZ59.out
    have q0 := cell_of_heap zr 0
    have q1 := cell_of_heap zr 1
    simp only [List.getElem?_toArray, List.getElem?_cons_zero, List.getElem?_cons_succ] at q0 q1
    have l0 := (Array.getElem?_eq_some_iff.1 zr).1
    clear hb zr
    by_cases hlt : j < nI
    · obtain ⟨ge, oe, q, rfl, hge, hq, e0, e1, e2⟩ := pv_at (HO9.out.below HBR.out) (k := j) (by rw [hRL]; exact hlt)
      obtain ⟨f1, f2, f3, f4⟩ := HFA.out j q hq
      obtain ⟨i1, i2, i3⟩ := HIN.out.get hq
      obtain ⟨qa, qx, qy⟩ := q
      simp only at f1 f2 f3 f4 i1 i2 i3 e0 e1 e2
      have hw1 : IntKind.i64.wrap qa = qa := IntWalk.i64_in _ (by omega)
      have hw2 : IntKind.i64.wrap (100 * (j : Int)) = 100 * (j : Int) := IntWalk.i64_in _ (by omega)
      have HREL := Lib.hid (show ∃ k : Nat, k ≤ nI ∧ Value.int .i64 ((j : Int) + 1) = .int .i64 (k : Nat) ∧ Below w9.heap.size w9 (wr.alloc (.cells #[.int .i32 qa, .int .i32 qx, .int .i32 qy] 84)) from ⟨j + 1, hlt, by go_num, HBR.out.trans (balloc (brefl _) _ |>.mono HBR.out.size)⟩)
      clear hq i1 i2 i3
      have hd1 : ((100 * (j : Int)) != (100 * (j : Int))) = false := by simp
      have HD2 : (dz == 2) = true ∧ (dz != 2) = false ∨ (dz == 2) = false ∧ (dz != 2) = true := by
        by_cases h : dz = 2 <;> simp [h]
      cases cr with
      | true =>
        have f1 := f1 rfl
        subst f1
        rcases HD2 with ⟨g1, g2⟩ | ⟨g1, g2⟩
        · have f3 := f3 (by simpa using g1)
          subst f3
          clear f2 f4
          go_wp2_with fail
          go_roundw
          case rel => exact HREL.out
          case measure => simp only [Go.RowKit.intOf]; omega
        · have f4 := f4 (by simpa using g1)
          subst f4
          clear f2 f3
          go_wp2_with fail
          go_roundw
          case rel => exact HREL.out
          case measure => simp only [Go.RowKit.intOf]; omega
      | false =>
        obtain ⟨f5, f6⟩ := f2 rfl
        subst f5 f6
        clear f1 f3 f4
        rcases HD2 with ⟨g1, g2⟩ | ⟨g1, g2⟩
        · go_wp2_with fail
          go_roundw
          case rel => exact HREL.out
          case measure => simp only [Go.RowKit.intOf]; omega
        · go_wp2_with fail
          go_roundw
          case rel => exact HREL.out
          case measure => simp only [Go.RowKit.intOf]; omega
    · obtain rfl : nI = j := by omega
      have HLEN := Lib.hid (plen_any w.heap.size gp d ap cp R wr (HP9.out.below HBR.out))
      have HBW := Lib.hid (HB9.out.trans (HBR.out.mono HB9.out.size))
      have d1 : ((nI : Int) == (nI : Int)) = true := by simp
      rw [hRL] at HLEN
      clear hlt
      go_wp2_with (go_at_call 35; (with_reducible refine HLEN.out.mono ?_); rintro e w_ ⟨rfl, rfl⟩)
      go_ret
      exact ⟨rfl, HBW.out⟩

open Go.ChangeShapes Go.WideShapes Go.ChangeAt Go.RowKit
open Go.ChangeMaps (open_string shut_string)

set_option maxRecDepth 100000 in
theorem stackSides_walks (H : Type) (enc : TypeId × Value → H) : Walks H enc 6 [69, 23, 71] := by
  intro W base args ds p hval hA _
  obtain ⟨v0, vs0, d0, ds0, p0, q0, hargs, rfl, rfl, h0, r0⟩ := trodAll_cons hA
  obtain ⟨v1, vs1, d1, ds1, p1, q1, rfl, rfl, rfl, h1, r1⟩ := trodAll_cons r0
  obtain ⟨v2, vs2, d2, ds2, p2, q2, rfl, rfl, rfl, h2, r2⟩ := trodAll_cons r1
  obtain ⟨rfl, rfl, rfl⟩ := trodAll_nil r2
  obtain rfl : args = #[v0, v1, v2] := by cases args; simp_all
  obtain ⟨pl, aC, aR, aE, rv, cC, cR, cE, aL, cL, vs, rfl, hP, hw, _, hS, h16⟩ := open_plan23 (hval 0 69 v0 rfl rfl) h0
  obtain ⟨a, n, c, ids, rfl, hl, _, _, _, hi, hz⟩ := open_ids (hval 1 23 v1 rfl rfl) h1
  obtain ⟨dz, cr, rfl, _, _⟩ := open_way23 (hval 2 71 v2 rfl rfl) h2
  exact stackSides_walk pl aC aR aE rv cC cR cE aL cL vs a n c ids dz cr W hP hw hS h16 hi hl hz

set_option maxRecDepth 100000 in
theorem stackSides_lifted (os : Os) (started : os.Started) (H : Type) (enc : TypeId × Value → H) :
    ReturnsInHanded {} Try.checked os 6 .any (Rows.stackSidesSpec.pre6 enc Try.prog Try.f6 Rows.stackSidesRow.domain false) (Rows.stackSidesSpec.post enc Try.prog Try.f6 false true false false) :=
  lift_law (s := Rows.stackSidesSpec) (fn := Try.f6) started (by kernel_rfl) Try.func6
    (ChangeSpec.witness6 (enc := enc) (C := Try.checked) false ⟨#[], #[.agg #[.slice none 0 0, .slice none 0 0, .slice none 0 0, .int .u8 0, .slice none 0 0], .slice none 0 0, .agg #[.int .i64 0, .bool false]], []⟩ 8 (by kernel_rfl) (by kernel_rfl) (by kernel_rfl) (by kernel_rfl))
    rfl rfl (fun ds h => by match ds, h with | [d0, d1, d2], _ => rfl) (by intro t ht; simp [Try.params6] at ht; first | (subst ht; exact ⟨by kernel_rfl, of_decide_eq_true (by kernel_rfl)⟩) | (obtain rfl | rfl := ht <;> exact ⟨by kernel_rfl, of_decide_eq_true (by kernel_rfl)⟩) | (obtain rfl | rfl | rfl := ht <;> exact ⟨by kernel_rfl, of_decide_eq_true (by kernel_rfl)⟩) | (obtain rfl | rfl | rfl | rfl := ht <;> exact ⟨by kernel_rfl, of_decide_eq_true (by kernel_rfl)⟩))
    (by rw [Try.params6]; exact stackSides_walks H enc)
theorem stackSides_over : Rows.stackSidesRow.holds Try.pinned (OpenSpec.ofChange Rows.stackSidesSpec) :=
  OpenClaim.holds_of_wide 6 Try.f6 rfl rfl rfl rfl rfl rfl rfl ⟨rfl, rfl, rfl, rfl, rfl⟩ rfl rfl rfl rfl rfl (by kernel_rfl) Try.func6 (by kernel_rfl)
    (of_decide_eq_true (by kernel_rfl)) (by unfold Func.isWrapper; first | (rw [if_pos (by decide +kernel)]; kernel_rfl) | (rw [if_neg (by decide +kernel)]; exact ⟨rfl, rfl⟩))
    (fun os started H enc _ => stackSides_lifted os started H enc)
theorem stackSides_proved : Rows.StackSidesSaid := stackSides_over
#print axioms stackSides_proved
end Go.Proofs.Ytaladlaffglkeaa
