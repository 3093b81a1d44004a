
/- What is settled, asked for again, behind whatever was, is what is on of these, and settled once more stays, for every case. No condition but those of the statement. -/
import Derived.Test.YtfnghinefbmlmaaPickN
namespace Go.Proofs.Ytfnghinefbmlmaa
open Go.RowKit Go.Lib

set_option maxRecDepth 100000 in
set_option maxHeartbeats 4000000 in
theorem pickAgain_walk (a : Option Addr) (n c : Nat) (l : List St) (ka : Option Addr) (kn kc : Nat) (ks : List UInt8) (xa : Option Addr) (xn xc : Nat) (xs : List Bool) (w : World) (h : CaseOk w a n c l ka kn kc ks xa xn xc xs) :
    Calls Try.prog 7 #[caseV a n c ka kn kc xa xn xc] w fun e w' => e = .returned (.bool true) ∧ Below w.heap.size w w' := by
  have hAC := allocC
  have hAF := allocF
  have HSP := Lib.hid (fun W => speaks9_any W)
  have HC := Lib.hid h
  have hA0 := h.cap.2.2
  clear h
  have HBG := Lib.hid (fun b W hb => big_any a n c ka kn kc xa xn xc b W hb)
  by_cases hbig : 100 < n ∨ 40 < kn
  · have HB1 := Lib.hid (show (decide (100 < (n : Int)) || decide (40 < (kn : Int))) = true by rcases hbig with g | g <;> simp <;> omega)
    clear hbig
    go_enter Try.func7, Try.ntmps7
    go_wp2_with (first | (go_at_call 14; (with_reducible refine (HSP.out _).mono ?_); rintro e w1 ⟨rfl, hb1⟩; have h1c := bc hb1; have h1f := bf hb1; have h1z := hb1.size; try simp only [World.size_alloc, World.size_drew] at h1z) | (go_at_call 15; (with_reducible refine (HBG.out true _ HB1.out).mono ?_); rintro e w2 ⟨rfl, hb2⟩; have h2c := bc hb2; have h2f := bf hb2; have h2z := hb2.size; try simp only [World.size_alloc, World.size_drew] at h2z))
    go_ret
    exact ⟨rfl, blw⟩
  have HB1 := Lib.hid (show (decide (100 < (n : Int)) || decide (40 < (kn : Int))) = false by simp; omega)
  have hn1 : n ≤ 100 := by omega
  have hn2 : kn ≤ 40 := by omega
  have HA0 := Lib.hid hA0
  clear hbig hA0
  go_enter Try.func7, Try.ntmps7
  go_wp2_with (first
    | (go_at_call 14; (with_reducible refine (HSP.out _).mono ?_); rintro e w1 ⟨rfl, hb1⟩; have h1c := bc hb1; have h1f := bf hb1; have h1z := hb1.size; try simp only [World.size_alloc, World.size_drew] at h1z) | (go_at_call 15; (with_reducible refine (HBG.out false _ HB1.out).mono ?_); rintro e w2 ⟨rfl, hb2⟩; have h2c := bc hb2; have h2f := bf hb2; have h2z := hb2.size; try simp only [World.size_alloc, World.size_drew] at h2z) | (go_at_call 16; (with_reducible refine (features_any ka kn kc ks xa xn xc xs _ (HC.out.khas.below (by exact blw)) HC.out.klen hn2 (HC.out.xhas.below (by exact blw)) HC.out.xlen HC.out.xcap).mono ?_); rintro e w3 ⟨a1, m1, c1, a2, c2, fs, rfl, htwo, hm1, hb3⟩; have HT3 := Lib.hid htwo; have h3c := bc hb3; have h3f := bf hb3; have h3z := hb3.size; (try simp only [World.size_alloc, World.size_drew] at h3z); clear htwo; have HMARK := Lib.hid True.intro)
    | (go_at_call 17; clear HMARK; (with_reducible refine (settle_any a n c l a1 m1 c1 fs _ ⟨HC.out.has.below (by exact blw), HC.out.len, by omega, HC.out.wf⟩ (HT3.out.fe (by omega))).mono ?_); rintro e w4 ⟨a4, m4, c4, on, rfl, hs4, hset4, hm4, hmc4, hcm4, hA4, hb4⟩; have HS4 := Lib.hid hs4; have HSET := Lib.hid hset4; have HA4 := Lib.hid hA4; have h4c := bc hb4; have h4f := bf hb4; have h4z := hb4.size; (try simp only [World.size_alloc, World.size_drew] at h4z); have HFE4 := Lib.hid ((HT3.out.fe (by omega)).below hb4); have HC4 := Lib.hid ((HC.out.has.below (by exact blw)).below hb4); clear hs4 hset4 hA4)
    | (at_builtin; refine wpApp rfl _ _ 39 rfl w4.heap.size 44 (.agg #[.int .i64 0, .int .i64 0]) 2 16 Try.underlying39 set_info rfl (by decide) _ 0 [] rfl (World.ownsRow_lit w4 #[] 0 (Nat.le_refl _) (by decide) rfl) a n c (gv l) rfl (by rw [gv_length, HC.out.len]) (HC4.out.below (balloc (brefl _) _)) HA0.out (gv_one _) (by unfold maxLen; omega) (by omega) (by simp) ?_; intro a6 c6 w6 hown6 k61 k62 k63 hb6 hg6; simp only [Nat.zero_add, List.nil_append] at hown6; have HO6 := Lib.hid hown6; have HB6 := Lib.hid ((balloc (brefl w4) _).trans hb6); clear hown6 k63 hb6 hg6; (try dsimp only [Act.put]); (try simp only [Nat.zero_add]); (try simp only [List.setIfInBounds_toArray, List.set_cons_succ, List.set_cons_zero]))
    | (at_builtin; refine wpApp rfl _ _ 39 rfl w4.heap.size 44 (.agg #[.int .i64 0, .int .i64 0]) 2 16 Try.underlying39 set_info rfl (by decide) _ n (gv l) rfl HO6.out a4 m4 c4 (gv on) rfl (by rw [gv_length, HS4.out.len]) (HS4.out.has.below HB6.out) HA4.out (gv_one _) (by unfold maxLen; omega) (by omega) HB6.out.size ?_; intro a7 c7 w7 hown7 k71 k72 k73 hb7 hg7; rw [← gv_append] at hown7; have HO7 := Lib.hid hown7; have HB7 := Lib.hid (HB6.out.trans hb7); clear hown7 k73 hb7 hg7; (try dsimp only [Act.put]); (try simp only [List.setIfInBounds_toArray, List.set_cons_succ, List.set_cons_zero]))
    | (go_at_call 17; (with_reducible refine (settle_any a7 (n + m4) c7 (l ++ on) a1 m1 c1 fs w7 ⟨has_of_owns HO7.out, by rw [List.length_append, HC.out.len, HS4.out.len], by omega, fun s hs => (List.mem_append.1 hs).elim (HC.out.wf s) (HS4.out.wf s)⟩ (HFE4.out.below HB7.out)).mono ?_); rintro e w8 ⟨a8, m8, c8, ts, rfl, hs8, hset8, _, hmc8, hcm8, _, hb8⟩; obtain rfl := (HSET.out.again hset8).symm; obtain rfl : m4 = m8 := HS4.out.len.symm.trans hs8.len; have HS8 := Lib.hid hs8; have HB8 := Lib.hid (bthen HB7.out hb8); clear HO7 HO6 hs8 hset8 hb8)
    | (go_at_call 17; (with_reducible refine (settle_any a4 m4 c4 on a1 m1 c1 fs w8 (HS4.out.below HB8.out) (HFE4.out.below HB8.out)).mono ?_); rintro e w9 ⟨a9, m9, c9, us, rfl, hs9, hset9, _, hmc9, hcm9, _, hb9⟩; obtain rfl := (HSET.out.once hset9).symm; obtain rfl : m4 = m9 := HS4.out.len.symm.trans hs9.len; have HS9 := Lib.hid hs9; have HS8' := Lib.hid (HS8.out.below hb9); have HB9 := Lib.hid (bthen HB8.out hb9); clear HS8 hs9 hset9 hb9))
  have HBW := Lib.hid (show Below w.heap.size w w9 from bthen (show Below w.heap.size w w4 from by exact blw) HB9.out)
  have HS4' := Lib.hid (HS4.out.below HB9.out)
  have HNE := fun (x : St) (hx : wfS x) w => neS x x hx hx w
  clear hb1 hb2 hb3 hb4 h1c h1f h1z h2c h2f h2z h3c h3f h3z h4c h4f h4z HT3 HBG HSP HB1 HC HS4 HFE4 HC4 HB6 HB7 HB8
  go_loopw [50] (fun i wr => ∃ j : Nat, j ≤ m4 ∧ i = .int .i64 (j : Nat) ∧ Below w9.heap.size w9 wr) (fun i _ => m4 - (intOf i).toNat)
  case atStart => exact ⟨0, Nat.zero_le _, rfl, Below.refl _ _⟩
  case round =>
    obtain ⟨j, hj, rfl, hb⟩ := hrel
    by_cases hlt : j < m4
    · obtain ⟨x, hx⟩ : ∃ x, on[j]? = some x := ⟨_, List.getElem?_eq_getElem (by rw [HS4'.out.len]; exact hlt)⟩
      have hne := HNE x (HS4'.out.wf x (List.mem_of_getElem? hx))
      rw [show (x == x) = true from by simp] at hne
      obtain ⟨b, o, ha, hbl, c0, c1⟩ := set_cells (HS4'.out.has.below hb) hx
      obtain ⟨b', o', ha', hbl', d0, d1⟩ := set_cells (HS8'.out.has.below hb) hx
      obtain ⟨b2, o2, ha2, hbl2, e0, e1⟩ := set_cells (HS9.out.has.below hb) hx
      subst ha ha' ha2
      have HB := Lib.hid hb
      simp only [Bool.not_true] at hne
      clear hx HNE hb
      go_wp2_with fail
      refine wp_region_tree (.step 0 (.step 1 (.step 2 (.step 3 (.step 4 (.step 5 (.step 6 (.step 7 (.step 8 (.step 9 (.step 10 (.step 11 (.step 12 (.step 13 (.step 14 (.step 15 (.step 16 (.step 17 (.step 18 (.step 19 .nil)))))))))))))))))))) (by kernel_rfl) (by kernel_rfl) (by kernel_rfl) (by kernel_rfl) (by intro _ _ d_ _ _ h_; cases d_ <;> first | exact h_ | (dsimp +zetaDelta only at h_ ⊢; exact h_)) (fun w' => ∃ p : Wld wr [], w' = p.val) (wld_start _ _) ?_
      have hG_ := @wldC wr
      (refine tree_quiet (by simp only [List.getElem?_toArray, List.getElem?_cons_succ, List.getElem?_cons_zero]; rfl) (by rfl) (by rfl) (fun K_ hK_ => ?_); go_big_quiet_op; refine hK_ _ ?_; clear hK_ K_)
      (refine tree_quiet (by simp only [List.getElem?_toArray, List.getElem?_cons_succ, List.getElem?_cons_zero]; rfl) (by rfl) (by rfl) (fun K_ hK_ => ?_); go_big_quiet_op; refine hK_ _ ?_; clear hK_ K_)
      (refine tree_quiet (by simp only [List.getElem?_toArray, List.getElem?_cons_succ, List.getElem?_cons_zero]; rfl) (by rfl) (by rfl) (fun K_ hK_ => ?_); go_big_quiet_op; refine hK_ _ ?_; clear hK_ K_)
      (refine tree_quiet (by simp only [List.getElem?_toArray, List.getElem?_cons_succ, List.getElem?_cons_zero]; rfl) (by rfl) (by rfl) (fun K_ hK_ => ?_); go_big_quiet_op; refine hK_ _ ?_; clear hK_ K_)
      (refine tree_quiet (by simp only [List.getElem?_toArray, List.getElem?_cons_succ, List.getElem?_cons_zero]; rfl) (by rfl) (by rfl) (fun K_ hK_ => ?_); go_big_quiet_op; refine hK_ _ ?_; clear hK_ K_)
      (refine tree_quiet (by simp only [List.getElem?_toArray, List.getElem?_cons_succ, List.getElem?_cons_zero]; rfl) (by rfl) (by rfl) (fun K_ hK_ => ?_); go_big_quiet_op; refine hK_ _ ?_; clear hK_ K_)
      (refine tree_quiet (by simp only [List.getElem?_toArray, List.getElem?_cons_succ, List.getElem?_cons_zero]; rfl) (by rfl) (by rfl) (fun K_ hK_ => ?_); go_big_quiet_op; refine hK_ _ ?_; clear hK_ K_)
      (refine tree_quiet (by simp only [List.getElem?_toArray, List.getElem?_cons_succ, List.getElem?_cons_zero]; rfl) (by rfl) (by rfl) (fun K_ hK_ => ?_); go_big_quiet_op; refine hK_ _ ?_; clear hK_ K_)
      (refine tree_quiet (by simp only [List.getElem?_toArray, List.getElem?_cons_succ, List.getElem?_cons_zero]; rfl) (by rfl) (by rfl) (fun K_ hK_ => ?_); go_big_quiet_op; refine hK_ _ ?_; clear hK_ K_)
      (refine tree_quiet (by simp only [List.getElem?_toArray, List.getElem?_cons_succ, List.getElem?_cons_zero]; rfl) (by rfl) (by rfl) (fun K_ hK_ => ?_); go_big_quiet_op; refine hK_ _ ?_; clear hK_ K_)
      first | (refine tree_skip (by simp only [List.getElem?_toArray, List.getElem?_cons_succ, List.getElem?_cons_zero]; rfl) (by rfl) ?_; dsimp only [Act.put]; simp only [List.setIfInBounds_toArray, List.set_cons_succ, List.set_cons_zero]) | (refine tree_quiet (by simp only [List.getElem?_toArray, List.getElem?_cons_succ, List.getElem?_cons_zero]; rfl) (by rfl) (by rfl) (fun K_ hK_ => ?_); go_big_quiet_op; refine hK_ _ ?_; clear hK_ K_)
      first | (refine tree_skip (by simp only [List.getElem?_toArray, List.getElem?_cons_succ, List.getElem?_cons_zero]; rfl) (by rfl) ?_; dsimp only [Act.put]; simp only [List.setIfInBounds_toArray, List.set_cons_succ, List.set_cons_zero]) | (refine tree_quiet (by simp only [List.getElem?_toArray, List.getElem?_cons_succ, List.getElem?_cons_zero]; rfl) (by rfl) (by rfl) (fun K_ hK_ => ?_); go_big_quiet_op; refine hK_ _ ?_; clear hK_ K_)
      first | (refine tree_skip (by simp only [List.getElem?_toArray, List.getElem?_cons_succ, List.getElem?_cons_zero]; rfl) (by rfl) ?_; dsimp only [Act.put]; simp only [List.setIfInBounds_toArray, List.set_cons_succ, List.set_cons_zero]) | (refine tree_quiet (by simp only [List.getElem?_toArray, List.getElem?_cons_succ, List.getElem?_cons_zero]; rfl) (by rfl) (by rfl) (fun K_ hK_ => ?_); go_big_quiet_op; refine hK_ _ ?_; clear hK_ K_)
      first | (refine tree_skip (by simp only [List.getElem?_toArray, List.getElem?_cons_succ, List.getElem?_cons_zero]; rfl) (by rfl) ?_; dsimp only [Act.put]; simp only [List.setIfInBounds_toArray, List.set_cons_succ, List.set_cons_zero]) | (refine tree_quiet (by simp only [List.getElem?_toArray, List.getElem?_cons_succ, List.getElem?_cons_zero]; rfl) (by rfl) (by rfl) (fun K_ hK_ => ?_); go_big_quiet_op; refine hK_ _ ?_; clear hK_ K_)
      first | (refine tree_skip (by simp only [List.getElem?_toArray, List.getElem?_cons_succ, List.getElem?_cons_zero]; rfl) (by rfl) ?_; dsimp only [Act.put]; simp only [List.setIfInBounds_toArray, List.set_cons_succ, List.set_cons_zero]) | (refine tree_quiet (by simp only [List.getElem?_toArray, List.getElem?_cons_succ, List.getElem?_cons_zero]; rfl) (by rfl) (by rfl) (fun K_ hK_ => ?_); go_big_quiet_op; refine hK_ _ ?_; clear hK_ K_)
      first | (refine tree_skip (by simp only [List.getElem?_toArray, List.getElem?_cons_succ, List.getElem?_cons_zero]; rfl) (by rfl) ?_; dsimp only [Act.put]; simp only [List.setIfInBounds_toArray, List.set_cons_succ, List.set_cons_zero]) | (refine tree_quiet (by simp only [List.getElem?_toArray, List.getElem?_cons_succ, List.getElem?_cons_zero]; rfl) (by rfl) (by rfl) (fun K_ hK_ => ?_); go_big_quiet_op; refine hK_ _ ?_; clear hK_ K_)
      first | (refine tree_skip (by simp only [List.getElem?_toArray, List.getElem?_cons_succ, List.getElem?_cons_zero]; rfl) (by rfl) ?_; dsimp only [Act.put]; simp only [List.setIfInBounds_toArray, List.set_cons_succ, List.set_cons_zero]) | (refine tree_quiet (by simp only [List.getElem?_toArray, List.getElem?_cons_succ, List.getElem?_cons_zero]; rfl) (by rfl) (by rfl) (fun K_ hK_ => ?_); go_big_quiet_op; refine hK_ _ ?_; clear hK_ K_)
      first | (refine tree_skip (by simp only [List.getElem?_toArray, List.getElem?_cons_succ, List.getElem?_cons_zero]; rfl) (by rfl) ?_; dsimp only [Act.put]; simp only [List.setIfInBounds_toArray, List.set_cons_succ, List.set_cons_zero]) | (refine tree_quiet (by simp only [List.getElem?_toArray, List.getElem?_cons_succ, List.getElem?_cons_zero]; rfl) (by rfl) (by rfl) (fun K_ hK_ => ?_); go_big_quiet_op; refine hK_ _ ?_; clear hK_ K_)
      first | (refine tree_skip (by simp only [List.getElem?_toArray, List.getElem?_cons_succ, List.getElem?_cons_zero]; rfl) (by rfl) ?_; dsimp only [Act.put]; simp only [List.setIfInBounds_toArray, List.set_cons_succ, List.set_cons_zero]) | (refine tree_quiet (by simp only [List.getElem?_toArray, List.getElem?_cons_succ, List.getElem?_cons_zero]; rfl) (by rfl) (by rfl) (fun K_ hK_ => ?_); go_big_quiet_op; refine hK_ _ ?_; clear hK_ K_)
      (refine tree_quiet (by simp only [List.getElem?_toArray, List.getElem?_cons_succ, List.getElem?_cons_zero]; rfl) (by rfl) (by rfl) (fun K_ hK_ => ?_); go_big_quiet_op; refine hK_ _ ?_; clear hK_ K_)
      refine tree_nil ?_
      clear hG_
      go_wp2_with fail
      go_roundw
      case rel => exact ⟨j + 1, hlt, by go_num, bdrew1 HB.out⟩
      case measure => simp [intOf]; omega
    · obtain rfl : m4 = j := by omega
      go_wp2_with fail
      go_ret
      exact ⟨rfl, bthen HBW.out hb⟩

open Go.ChangeShapes Go.WideShapes Go.ChangeAt Go.RowKit
open Go.ChangeMaps (open_string shut_string)

set_option maxRecDepth 100000 in
theorem pickAgain_walks (H : Type) (enc : TypeId × Value → H) : Walks H enc 7 [42] := by
  intro W base args ds p hval hA _
  obtain ⟨v0, vs0, d0, ds0, p0, q0, hargs, rfl, rfl, h0, r0⟩ := trodAll_cons hA
  obtain ⟨rfl, rfl, rfl⟩ := trodAll_nil r0
  obtain rfl : args = #[v0] := by cases args; simp_all
  obtain ⟨a, n, c, l, ka, kn, kc, ks, xa, xn, xc, xs, rfl, hC⟩ := open_case (hval 0 42 v0 rfl rfl) h0
  exact pickAgain_walk a n c l ka kn kc ks xa xn xc xs W hC

set_option maxRecDepth 100000 in
theorem pickAgain_lifted (os : Os) (started : os.Started) (H : Type) (enc : TypeId × Value → H) :
    ReturnsInHanded {} Try.checked os 7 .any (Rows.pickAgainSpec.pre6 enc Try.prog Try.f7 Rows.pickAgainRow.domain false) (Rows.pickAgainSpec.post enc Try.prog Try.f7 false true false false) :=
  lift_law (s := Rows.pickAgainSpec) (fn := Try.f7) started (by kernel_rfl) Try.func7
    (ChangeSpec.witness6 (enc := enc) (C := Try.checked) false ⟨#[], #[.agg #[.slice none 0 0, .slice none 0 0, .slice none 0 0]], []⟩ 8 (by kernel_rfl) (by kernel_rfl) (by kernel_rfl) (by kernel_rfl))
    rfl rfl (fun ds h => by match ds, h with | [d0], _ => rfl) (by intro t ht; simp [Try.params7] at ht; first | (subst ht; exact ⟨by kernel_rfl, of_decide_eq_true (by kernel_rfl)⟩) | (obtain rfl | rfl := ht <;> exact ⟨by kernel_rfl, of_decide_eq_true (by kernel_rfl)⟩) | (obtain rfl | rfl | rfl := ht <;> exact ⟨by kernel_rfl, of_decide_eq_true (by kernel_rfl)⟩) | (obtain rfl | rfl | rfl | rfl := ht <;> exact ⟨by kernel_rfl, of_decide_eq_true (by kernel_rfl)⟩))
    (by rw [Try.params7]; exact pickAgain_walks H enc)
theorem pickAgain_over : Rows.pickAgainRow.holds Try.pinned (OpenSpec.ofChange Rows.pickAgainSpec) :=
  OpenClaim.holds_of_wide 7 Try.f7 rfl rfl rfl rfl rfl rfl rfl ⟨rfl, rfl, rfl, rfl, rfl⟩ rfl rfl rfl rfl rfl (by kernel_rfl) Try.func7 (by kernel_rfl)
    (of_decide_eq_true (by kernel_rfl)) (by unfold Func.isWrapper; first | (rw [if_pos (by decide +kernel)]; kernel_rfl) | (rw [if_neg (by decide +kernel)]; exact ⟨rfl, rfl⟩))
    (fun os started H enc _ => pickAgain_lifted os started H enc)
theorem pickAgain_proved : Rows.PickAgainSaid := pickAgain_over
#print axioms pickAgain_proved
end Go.Proofs.Ytfnghinefbmlmaa
