/- Joined from: JWrite JSpk JOpen JRef. -/
import Derived.Test.YthehcbbdkiomnaaJ01
import Derived.Test.YthehcbbdkiomnaaJ23
import Derived.Test.YthehcbbdkiomnaaJ22
import Derived.Test.YthehcbbdkiomnaaJ18
section

/- The law's Write of layer 17: a plan's bytes. Conditions: a plan in memory; sizes. -/
namespace Go.Proofs.Ythehcbbdkiomnaa
open Go.RowKit Go.Lib

theorem run_index3 (c : Array Value) (k : Nat) (z : Int) (hv : c[k]? = some (.int .i64 z)) (hk : k < 3) (w : World) : (Instr.index 137 (.agg c) (.int .i64 (k : Nat))).run Try.prog w = .ok (.int .i64 z) w := by
  have hu : Try.prog.underlying 137 = some (.array 3 3) := by kernel_rfl
  have hk1 : 0 ≤ (k : Int) ∧ (k : Int) < 3 := by omega
  simp [Instr.index, run_underlying hu, asIntOf, hk, go_sem, hv]
theorem longs_snoc (l : List Nat) (q : Nat) (h : q < l.length) : longs (l.take (q + 1)) = longs (l.take q) ++ beN 4 (l.getD q 0) := by
  unfold longs
  rw [List.take_add_one, List.flatMap_append, List.getElem?_eq_getElem h, List.getD_eq_getElem?_getD, List.getElem?_eq_getElem h]
  simp
/-- The three places, as far as they are laid. -/
def headL (X : List UInt8) (M nA nC : Nat) : Nat → List UInt8
  | 0 => X
  | 1 => splice X 16 (beN 4 M)
  | 2 => splice (splice X 16 (beN 4 M)) 20 (beN 4 (M + 4 * nA))
  | _ => splice (splice (splice X 16 (beN 4 M)) 20 (beN 4 (M + 4 * nA))) 24 (beN 4 (M + 4 * nA + 2 * nC))
def atL (M nA nC j : Nat) : Nat := if j = 0 then M else if j = 1 then M + 4 * nA else M + 4 * nA + 2 * nC
theorem headL_step (X : List UInt8) (M nA nC j : Nat) (h : j < 3) : splice (headL X M nA nC j) (16 + 4 * j) (beN 4 (atL M nA nC j)) = headL X M nA nC (j + 1) := by
  rcases j with _ | _ | _ | j
  · rfl
  · rfl
  · rfl
  · omega
theorem headL_length (X : List UInt8) (M nA nC j : Nat) (h : 28 ≤ X.length) : (headL X M nA nC j).length = X.length := by
  have e1 : (splice X 16 (beN 4 M)).length = X.length := length_splice _ _ _ (by rw [beN_length]; omega)
  have e2 : (splice (splice X 16 (beN 4 M)) 20 (beN 4 (M + 4 * nA))).length = X.length := (length_splice _ _ _ (by rw [beN_length, e1]; omega)).trans e1
  have e3 : (splice (splice (splice X 16 (beN 4 M)) 20 (beN 4 (M + 4 * nA))) 24 (beN 4 (M + 4 * nA + 2 * nC))).length = X.length := (length_splice _ _ _ (by rw [beN_length, e2]; omega)).trans e2
  rcases j with _ | _ | _ | j
  · rfl
  · exact e1
  · exact e2
  · exact e3
set_option maxRecDepth 100000 in
set_option maxHeartbeats 12800000 in
theorem write17_any (p : PlanL) (aC aR aE : Option Addr) (rv : List Value) (cC cR cE : Nat) (aA aK aL : Option Addr) (nA cA nK cK nL cL : Nat) (acts comps ligs : List Nat) (w : World) (h : PlanHas w p aC aR rv aE) (hC : p.cls.length ≤ 1000) (hR : p.rows.length ≤ 1000) (hE : p.ents.length ≤ 1000) (hwf : ∀ e ∈ p.ents, wfI e.1 ∧ wfI e.2.1 ∧ wfI e.2.2.1 ∧ wfI e.2.2.2)
    (hA : Has w aA (u32V acts)) (hnA : acts.length = nA) (hn1 : nA ≤ 1000) (h32 : ∀ x ∈ acts, x ≤ 4294967295)
    (hK : Has w aK (u16V comps)) (hnK : comps.length = nK) (hn2 : nK ≤ 1000) (h16 : ∀ x ∈ comps, x ≤ 65535)
    (hS : Has w aL (u16V ligs)) (hnL : ligs.length = nL) (hn3 : nL ≤ 1000) (h17 : ∀ x ∈ ligs, x ≤ 65535) :
    Calls Try.prog 20 #[.agg #[.slice aC p.cls.length cC, .slice aR p.rows.length cR, .slice aE p.ents.length cE, .int .u8 (p.wide.toNat : Nat), .slice aA nA cA, .slice aK nK cK, .slice aL nL cL]] w fun e w' => ∃ a' c', e = .returned (.slice a' (ligB p acts comps ligs).length c') ∧ w'.ownsRow w.heap.size 5 1 (.slice a' (ligB p acts comps ligs).length c') (ligB p acts comps ligs).length (bytesV (ligB p acts comps ligs)) ∧ (ligB p acts comps ligs).length ≤ c' ∧ c' ≤ maxLen ∧ (a' = none → c' = 0) ∧ Below w.heap.size w w' := by
  have hAC := allocC
  have hAF := allocF
  have HW := Lib.hid (fun W (hW : Below w.heap.size w W) => write_any p 1 12 1 12 rfl rfl aC aR aE rv cC cR cE W (h.below hW) hC hR hE (by decide) (by decide) hwf)
  have hlen := planL1 (p := p)
  have hn4 : p.n ≤ 11 := by unfold PlanL.n; omega
  have hrn : p.rows.length * p.n ≤ 11000 := Nat.le_trans (Nat.mul_le_mul hR hn4) (by decide)
  obtain ⟨M, hM⟩ : ∃ M, M = (planB p 1 12).length := ⟨_, rfl⟩
  obtain ⟨X, hX⟩ : ∃ X, X = planB p 1 12 := ⟨_, rfl⟩
  have hIB : ligB p acts comps ligs = headL X M nA nK 3 ++ longs acts ++ vals16 comps ++ vals16 ligs := by
    unfold ligB ligH
    rw [hX, hM, hnA, hnK]
    rfl
  rw [← hX] at hM
  rw [← hX, ← hM] at HW
  have hM1 : 34 ≤ M ∧ M ≤ 100000 := by rw [hM, hX]; omega
  have HX := Lib.hid hM
  have HIB := Lib.hid hIB
  have hIL : (ligB p acts comps ligs).length = M + 4 * nA + 2 * nK + 2 * nL := by rw [hIB, List.length_append, List.length_append, List.length_append, headL_length _ _ _ _ _ (by omega), ← hM, longs_length, vals16_length, vals16_length, hnA, hnK, hnL]
  have HIL := Lib.hid hIL
  have HHL := Lib.hid (fun j => headL_length X M nA nK j (by omega))
  have HHA := Lib.hid hA
  have HHK := Lib.hid hK
  have HHS := Lib.hid hS
  have HNA := Lib.hid hnA
  have HNK := Lib.hid hnK
  have HNL := Lib.hid hnL
  have H32 := Lib.hid h32
  have H16 := Lib.hid h16
  have H17 := Lib.hid h17
  have HPN := Lib.hid (fun W (v : Nat) (z : Int) (hz : z = (v : Nat)) (hv : v ≤ 1000000) => put_zz W.heap.size none 0 0 v 4 4 z 4 hz rfl rfl [] W (World.ownsRow_nil _ _ _ _) (Nat.le_refl _) (by omega) (by omega) (by omega))
  have HDL := Lib.hid (fun v => show (beN 4 v).length = 4 from beN_length 4 v)
  clear h hwf hA hnA h32 hK hnK h16 hS hnL h17 hIB hIL hM hX hlen hrn hn4
  go_enter Try.func20, Try.ntmps20
  go_wp2_with (go_at_call 53; (with_reducible refine (HW.out _ (by exact blw)).mono ?_); rintro e w1 ⟨a1, c1, rfl, ho1, k1, k2, k3, hb1⟩; have HO1 := Lib.hid ho1; have h1z := hb1.size; have c2 := (hb1.block w.heap.size (by simp)).trans (show (w.alloc (.cells #[.slice aC p.cls.length cC, .slice aR p.rows.length cR, .slice aE p.ents.length cE, .int .u8 (p.wide.toNat : Nat), .slice aA nA cA, .slice aK nK cK, .slice aL nL cL] 55)).heap[w.heap.size]? = some (.cells #[.slice aC p.cls.length cC, .slice aR p.rows.length cR, .slice aE p.ents.length cE, .int .u8 (p.wide.toNat : Nat), .slice aA nA cA, .slice aK nK cK, .slice aL nL cL] 55 (0, 0)) from by rw [heap_push, if_pos rfl]); have q2 := fun o => cell_of_heap c2 o; have l2 := (Array.getElem?_eq_some_iff.1 c2).1; have C2 := Lib.hid c2; have HB1 := Lib.hid (show Below w.heap.size w w1 from by exact blw); clear ho1 hb1 c2)
  obtain ⟨gb, rfl, hgb1, hgb2⟩ := owns_some HO1.out (by omega)
  simp only [World.size_alloc] at h1z hgb1
  have hgb3 : w.heap.size ≠ gb := by omega
  clear q2
  go_loopw [39] (fun i wr => ∃ j : Nat, j ≤ 3 ∧ i = .int .i64 (j : Nat) ∧ wr.ownsRow w.heap.size 5 1 (.slice (some ⟨gb, 0, none⟩) M c1) M (bytesV (headL X M nA nK j)) ∧ wr.heap[w.heap.size]? = w1.heap[w.heap.size]? ∧ Below w.heap.size w wr) (fun i _ => 3 - (Go.RowKit.intOf i).toNat)
  case atStart => exact ⟨0, by decide, rfl, owns_mono (owns_below HO1.out (balloc (brefl _) _) (Nat.le_refl _)) (by simp), (balloc (brefl w1) _).block _ l2, HB1.out.trans (Below.mono (balloc (brefl _) _) (by omega))⟩
  case round =>
    obtain ⟨j, hj, rfl, ho, hc, hb⟩ := hrel
    rename World => wr
    have HO := Lib.hid ho
    have HC := Lib.hid (hc.trans C2.out)
    have HB := Lib.hid hb
    have hzr := hb.size
    have hl2r := (Array.getElem?_eq_some_iff.1 HC.out).1
    have hgbr := (ho.lt gb rfl).2
    clear ho hc hb
    by_cases hlt : j < 3
    · have hst := headL_step X M nA nK j hlt
      rcases (show j = 0 ∨ j = 1 ∨ j = 2 by omega) with rfl | rfl | rfl
      · have HST := Lib.hid (show splice (headL X M nA nK 0) 16 (beN 4 M) = headL X M nA nK 1 from hst)
        have hix : (Instr.index 137 (.agg #[.int .i64 (M : Nat), .int .i64 ((M : Int) + 4 * (nA : Int)), .int .i64 ((M : Int) + 4 * (nA : Int) + 2 * (nK : Int))]) (.int .i64 0)).run Try.prog wr = .ok (.int .i64 (M : Int)) wr := run_index3 _ 0 _ rfl (by decide) wr
        clear hst
        go_wp2_with fail
        refine wp_region_lastY (.step 0 (.step 1 (.step 2 (.step 3 (.step 4 (.step 5 (.step 6 (.step 7 (.step 8 (.step 9 (.step 10 .nil))))))))))) 10 (by kernel_rfl) (by kernel_rfl) (by kernel_rfl) (by kernel_rfl) (by kernel_rfl) (by intro _ _ d_ _ _ h_; cases d_ <;> first | exact h_ | (dsimp +zetaDelta only at h_ ⊢; exact h_)) (fun w' => ∃ p : Wld wr [], w' = p.val) (wld_start _ _) ?_
        have hG_ := @wldC wr
        (refine z_quiet gtA (by rfl) (by rfl) (fun K_ hK_ => ?_); go_big_quiet_op; refine hK_ _ ?_; clear hK_ K_)
        (refine z_quiet gtA (by rfl) (by rfl) (fun K_ hK_ => ?_); go_big_quiet_op; refine hK_ _ ?_; clear hK_ K_)
        (refine z_quiet gtA (by rfl) (by rfl) (fun K_ hK_ => ?_); go_big_quiet_op; refine hK_ _ ?_; clear hK_ K_)
        (refine z_quiet gtA (by rfl) (by rfl) (fun K_ hK_ => ?_); go_big_quiet_op; refine hK_ _ ?_; clear hK_ K_)
        (refine z_quiet gtA (by rfl) (by rfl) (fun K_ hK_ => ?_); go_big_quiet_op; refine hK_ _ ?_; clear hK_ K_)
        (refine z_quiet gtA (by rfl) (by rfl) (fun K_ hK_ => ?_); go_big_quiet_op; refine hK_ _ ?_; clear hK_ K_)
        (refine z_quiet gtA (by rfl) (by rfl) (fun K_ hK_ => ?_); go_big_quiet_op; refine hK_ _ ?_; clear hK_ K_)
        (refine z_quiet gtA (by rfl) (by rfl) (fun K_ hK_ => ?_); go_big_quiet_op; refine hK_ _ ?_; clear hK_ K_)
        (refine z_quiet gtA (by rfl) (by rfl) (fun K_ hK_ => ?_); go_big_quiet_op; refine hK_ _ ?_; clear hK_ K_)
        (refine z_run gtA (by rfl) (by rfl) (fun K_ hK_ => ?_); have HK_ := Lib.hid hK_; clear hK_; (first | ((refine wpCopyRow _ _ 22 22 rfl 5 Try.underlying22 u8_one _ gb M c1 (bytesV (headL X M nA nK 0)) HO2.out 16 4 _ ⟨gd, 0, none⟩ 4 _ rfl rfl (bytesV (beN 4 M)) (by rw [bytesV_length, HDL.out]; rfl) (fun j v hj => by obtain ⟨p, hp, hc⟩ := HD2.out j v hj; cases hp; exact hc) (by rw [bytesV_length, HDL.out]; omega) (bytesV_one _) ?_; intro w3 ho3 hk3 hz3 hb3; rw [bytesV_splice] at ho3; have HO3 := Lib.hid ho3; have HK3 := Lib.hid (show ∀ k, k ≠ gb → w3.heap[k]? = w2.heap[k]? from hk3); have HZ3 := Lib.hid (show w3.heap.size = w2.heap.size from hz3); have HB3 := Lib.hid (show Below w.heap.size w w3 from HB2.out.trans (Below.mono hb3 (by omega))); clear ho3 hk3 hz3 hb3)) | (go_wp2_with (first | (go_at_call 54; (with_reducible refine (HPN.out _ M _ (by go_num) (by omega)).mono ?_); rintro e w2 ⟨a2, c2, rfl, ho, _, _, _, hb2, _⟩; obtain ⟨gd, rfl, _, _⟩ := owns_some ho (by decide); have HD2 := Lib.hid (has_of_owns ho); have hbr : Below wr.heap.size wr w2 := (by exact blw); have HO2 := Lib.hid (owns_below HO.out hbr (Nat.le_refl _)); have HB2 := Lib.hid (HB.out.trans (hbr.mono (by omega))); have HC2 := Lib.hid ((hbr.block _ hl2r).trans HC.out); clear ho hbr)))); refine HK_.out _ _ (wld_ofA) ?_; clear HK_)
        (refine z_last gtA (by rfl) (by rfl) (by rfl) (fun K_ hK_ => ?_); have HK_ := Lib.hid hK_; clear hK_; (first | ((refine wpCopyRow _ _ 22 22 rfl 5 Try.underlying22 u8_one _ gb M c1 (bytesV (headL X M nA nK 0)) HO2.out 16 4 _ ⟨gd, 0, none⟩ 4 _ rfl rfl (bytesV (beN 4 M)) (by rw [bytesV_length, HDL.out]; rfl) (fun j v hj => by obtain ⟨p, hp, hc⟩ := HD2.out j v hj; cases hp; exact hc) (by rw [bytesV_length, HDL.out]; omega) (bytesV_one _) ?_; intro w3 ho3 hk3 hz3 hb3; rw [bytesV_splice] at ho3; have HO3 := Lib.hid ho3; have HK3 := Lib.hid (show ∀ k, k ≠ gb → w3.heap[k]? = w2.heap[k]? from hk3); have HZ3 := Lib.hid (show w3.heap.size = w2.heap.size from hz3); have HB3 := Lib.hid (show Below w.heap.size w w3 from HB2.out.trans (Below.mono hb3 (by omega))); clear ho3 hk3 hz3 hb3)) | (go_wp2_with (first | (go_at_call 54; (with_reducible refine (HPN.out _ M _ (by go_num) (by omega)).mono ?_); rintro e w2 ⟨a2, c2, rfl, ho, _, _, _, hb2, _⟩; obtain ⟨gd, rfl, _, _⟩ := owns_some ho (by decide); have HD2 := Lib.hid (has_of_owns ho); have hbr : Below wr.heap.size wr w2 := (by exact blw); have HO2 := Lib.hid (owns_below HO.out hbr (Nat.le_refl _)); have HB2 := Lib.hid (HB.out.trans (hbr.mono (by omega))); have HC2 := Lib.hid ((hbr.block _ hl2r).trans HC.out); clear ho hbr)))); refine HK_.out _ _ ?_; clear HK_)
        refine z_nil ?_
        clear hG_
        have c3 := (HK3.out _ hgb3).trans HC2.out
        have HO3B := Lib.hid (owns_mono HO3.out (show w.heap.size ≤ _ by first | omega | simp))
        go_wp2_with fail
        go_roundw
        case rel => exact ⟨1, by decide, by first | rfl | go_num, by rw [← HST.out]; exact HO3B.out, c3.trans C2.out.symm, HB3.out⟩
        case measure => simp [Go.RowKit.intOf]
      · have HST := Lib.hid (show splice (headL X M nA nK 1) 20 (beN 4 (M + 4 * nA)) = headL X M nA nK 2 from hst)
        have hix : (Instr.index 137 (.agg #[.int .i64 (M : Nat), .int .i64 ((M : Int) + 4 * (nA : Int)), .int .i64 ((M : Int) + 4 * (nA : Int) + 2 * (nK : Int))]) (.int .i64 1)).run Try.prog wr = .ok (.int .i64 ((M : Int) + 4 * (nA : Int))) wr := run_index3 _ 1 _ rfl (by decide) wr
        clear hst
        go_wp2_with fail
        refine wp_region_lastY (.step 0 (.step 1 (.step 2 (.step 3 (.step 4 (.step 5 (.step 6 (.step 7 (.step 8 (.step 9 (.step 10 .nil))))))))))) 10 (by kernel_rfl) (by kernel_rfl) (by kernel_rfl) (by kernel_rfl) (by kernel_rfl) (by intro _ _ d_ _ _ h_; cases d_ <;> first | exact h_ | (dsimp +zetaDelta only at h_ ⊢; exact h_)) (fun w' => ∃ p : Wld wr [], w' = p.val) (wld_start _ _) ?_
        have hG_ := @wldC wr
        (refine z_quiet gtA (by rfl) (by rfl) (fun K_ hK_ => ?_); go_big_quiet_op; refine hK_ _ ?_; clear hK_ K_)
        (refine z_quiet gtA (by rfl) (by rfl) (fun K_ hK_ => ?_); go_big_quiet_op; refine hK_ _ ?_; clear hK_ K_)
        (refine z_quiet gtA (by rfl) (by rfl) (fun K_ hK_ => ?_); go_big_quiet_op; refine hK_ _ ?_; clear hK_ K_)
        (refine z_quiet gtA (by rfl) (by rfl) (fun K_ hK_ => ?_); go_big_quiet_op; refine hK_ _ ?_; clear hK_ K_)
        (refine z_quiet gtA (by rfl) (by rfl) (fun K_ hK_ => ?_); go_big_quiet_op; refine hK_ _ ?_; clear hK_ K_)
        (refine z_quiet gtA (by rfl) (by rfl) (fun K_ hK_ => ?_); go_big_quiet_op; refine hK_ _ ?_; clear hK_ K_)
        (refine z_quiet gtA (by rfl) (by rfl) (fun K_ hK_ => ?_); go_big_quiet_op; refine hK_ _ ?_; clear hK_ K_)
        (refine z_quiet gtA (by rfl) (by rfl) (fun K_ hK_ => ?_); go_big_quiet_op; refine hK_ _ ?_; clear hK_ K_)
        (refine z_quiet gtA (by rfl) (by rfl) (fun K_ hK_ => ?_); go_big_quiet_op; refine hK_ _ ?_; clear hK_ K_)
        (refine z_run gtA (by rfl) (by rfl) (fun K_ hK_ => ?_); have HK_ := Lib.hid hK_; clear hK_; (first | ((refine wpCopyRow _ _ 22 22 rfl 5 Try.underlying22 u8_one _ gb M c1 (bytesV (headL X M nA nK 1)) HO2.out 20 4 _ ⟨gd, 0, none⟩ 4 _ rfl rfl (bytesV (beN 4 (M + 4 * nA))) (by rw [bytesV_length, HDL.out]; rfl) (fun j v hj => by obtain ⟨p, hp, hc⟩ := HD2.out j v hj; cases hp; exact hc) (by rw [bytesV_length, HDL.out]; omega) (bytesV_one _) ?_; intro w3 ho3 hk3 hz3 hb3; rw [bytesV_splice] at ho3; have HO3 := Lib.hid ho3; have HK3 := Lib.hid (show ∀ k, k ≠ gb → w3.heap[k]? = w2.heap[k]? from hk3); have HZ3 := Lib.hid (show w3.heap.size = w2.heap.size from hz3); have HB3 := Lib.hid (show Below w.heap.size w w3 from HB2.out.trans (Below.mono hb3 (by omega))); clear ho3 hk3 hz3 hb3)) | (go_wp2_with (first | (go_at_call 54; (with_reducible refine (HPN.out _ (M + 4 * nA) _ (by go_num) (by omega)).mono ?_); rintro e w2 ⟨a2, c2, rfl, ho, _, _, _, hb2, _⟩; obtain ⟨gd, rfl, _, _⟩ := owns_some ho (by decide); have HD2 := Lib.hid (has_of_owns ho); have hbr : Below wr.heap.size wr w2 := (by exact blw); have HO2 := Lib.hid (owns_below HO.out hbr (Nat.le_refl _)); have HB2 := Lib.hid (HB.out.trans (hbr.mono (by omega))); have HC2 := Lib.hid ((hbr.block _ hl2r).trans HC.out); clear ho hbr)))); refine HK_.out _ _ (wld_ofA) ?_; clear HK_)
        (refine z_last gtA (by rfl) (by rfl) (by rfl) (fun K_ hK_ => ?_); have HK_ := Lib.hid hK_; clear hK_; (first | ((refine wpCopyRow _ _ 22 22 rfl 5 Try.underlying22 u8_one _ gb M c1 (bytesV (headL X M nA nK 1)) HO2.out 20 4 _ ⟨gd, 0, none⟩ 4 _ rfl rfl (bytesV (beN 4 (M + 4 * nA))) (by rw [bytesV_length, HDL.out]; rfl) (fun j v hj => by obtain ⟨p, hp, hc⟩ := HD2.out j v hj; cases hp; exact hc) (by rw [bytesV_length, HDL.out]; omega) (bytesV_one _) ?_; intro w3 ho3 hk3 hz3 hb3; rw [bytesV_splice] at ho3; have HO3 := Lib.hid ho3; have HK3 := Lib.hid (show ∀ k, k ≠ gb → w3.heap[k]? = w2.heap[k]? from hk3); have HZ3 := Lib.hid (show w3.heap.size = w2.heap.size from hz3); have HB3 := Lib.hid (show Below w.heap.size w w3 from HB2.out.trans (Below.mono hb3 (by omega))); clear ho3 hk3 hz3 hb3)) | (go_wp2_with (first | (go_at_call 54; (with_reducible refine (HPN.out _ (M + 4 * nA) _ (by go_num) (by omega)).mono ?_); rintro e w2 ⟨a2, c2, rfl, ho, _, _, _, hb2, _⟩; obtain ⟨gd, rfl, _, _⟩ := owns_some ho (by decide); have HD2 := Lib.hid (has_of_owns ho); have hbr : Below wr.heap.size wr w2 := (by exact blw); have HO2 := Lib.hid (owns_below HO.out hbr (Nat.le_refl _)); have HB2 := Lib.hid (HB.out.trans (hbr.mono (by omega))); have HC2 := Lib.hid ((hbr.block _ hl2r).trans HC.out); clear ho hbr)))); refine HK_.out _ _ ?_; clear HK_)
        refine z_nil ?_
        clear hG_
        have c3 := (HK3.out _ hgb3).trans HC2.out
        have HO3B := Lib.hid (owns_mono HO3.out (show w.heap.size ≤ _ by first | omega | simp))
        go_wp2_with fail
        go_roundw
        case rel => exact ⟨2, by decide, by first | rfl | go_num, by rw [← HST.out]; exact HO3B.out, c3.trans C2.out.symm, HB3.out⟩
        case measure => simp [Go.RowKit.intOf]
      · have HST := Lib.hid (show splice (headL X M nA nK 2) 24 (beN 4 (M + 4 * nA + 2 * nK)) = headL X M nA nK 3 from hst)
        have hix : (Instr.index 137 (.agg #[.int .i64 (M : Nat), .int .i64 ((M : Int) + 4 * (nA : Int)), .int .i64 ((M : Int) + 4 * (nA : Int) + 2 * (nK : Int))]) (.int .i64 2)).run Try.prog wr = .ok (.int .i64 ((M : Int) + 4 * (nA : Int) + 2 * (nK : Int))) wr := run_index3 _ 2 _ rfl (by decide) wr
        clear hst
        go_wp2_with fail
        refine wp_region_lastY (.step 0 (.step 1 (.step 2 (.step 3 (.step 4 (.step 5 (.step 6 (.step 7 (.step 8 (.step 9 (.step 10 .nil))))))))))) 10 (by kernel_rfl) (by kernel_rfl) (by kernel_rfl) (by kernel_rfl) (by kernel_rfl) (by intro _ _ d_ _ _ h_; cases d_ <;> first | exact h_ | (dsimp +zetaDelta only at h_ ⊢; exact h_)) (fun w' => ∃ p : Wld wr [], w' = p.val) (wld_start _ _) ?_
        have hG_ := @wldC wr
        (refine z_quiet gtA (by rfl) (by rfl) (fun K_ hK_ => ?_); go_big_quiet_op; refine hK_ _ ?_; clear hK_ K_)
        (refine z_quiet gtA (by rfl) (by rfl) (fun K_ hK_ => ?_); go_big_quiet_op; refine hK_ _ ?_; clear hK_ K_)
        (refine z_quiet gtA (by rfl) (by rfl) (fun K_ hK_ => ?_); go_big_quiet_op; refine hK_ _ ?_; clear hK_ K_)
        (refine z_quiet gtA (by rfl) (by rfl) (fun K_ hK_ => ?_); go_big_quiet_op; refine hK_ _ ?_; clear hK_ K_)
        (refine z_quiet gtA (by rfl) (by rfl) (fun K_ hK_ => ?_); go_big_quiet_op; refine hK_ _ ?_; clear hK_ K_)
        (refine z_quiet gtA (by rfl) (by rfl) (fun K_ hK_ => ?_); go_big_quiet_op; refine hK_ _ ?_; clear hK_ K_)
        (refine z_quiet gtA (by rfl) (by rfl) (fun K_ hK_ => ?_); go_big_quiet_op; refine hK_ _ ?_; clear hK_ K_)
        (refine z_quiet gtA (by rfl) (by rfl) (fun K_ hK_ => ?_); go_big_quiet_op; refine hK_ _ ?_; clear hK_ K_)
        (refine z_quiet gtA (by rfl) (by rfl) (fun K_ hK_ => ?_); go_big_quiet_op; refine hK_ _ ?_; clear hK_ K_)
        (refine z_run gtA (by rfl) (by rfl) (fun K_ hK_ => ?_); have HK_ := Lib.hid hK_; clear hK_; (first | ((refine wpCopyRow _ _ 22 22 rfl 5 Try.underlying22 u8_one _ gb M c1 (bytesV (headL X M nA nK 2)) HO2.out 24 4 _ ⟨gd, 0, none⟩ 4 _ rfl rfl (bytesV (beN 4 (M + 4 * nA + 2 * nK))) (by rw [bytesV_length, HDL.out]; rfl) (fun j v hj => by obtain ⟨p, hp, hc⟩ := HD2.out j v hj; cases hp; exact hc) (by rw [bytesV_length, HDL.out]; omega) (bytesV_one _) ?_; intro w3 ho3 hk3 hz3 hb3; rw [bytesV_splice] at ho3; have HO3 := Lib.hid ho3; have HK3 := Lib.hid (show ∀ k, k ≠ gb → w3.heap[k]? = w2.heap[k]? from hk3); have HZ3 := Lib.hid (show w3.heap.size = w2.heap.size from hz3); have HB3 := Lib.hid (show Below w.heap.size w w3 from HB2.out.trans (Below.mono hb3 (by omega))); clear ho3 hk3 hz3 hb3)) | (go_wp2_with (first | (go_at_call 54; (with_reducible refine (HPN.out _ (M + 4 * nA + 2 * nK) _ (by go_num) (by omega)).mono ?_); rintro e w2 ⟨a2, c2, rfl, ho, _, _, _, hb2, _⟩; obtain ⟨gd, rfl, _, _⟩ := owns_some ho (by decide); have HD2 := Lib.hid (has_of_owns ho); have hbr : Below wr.heap.size wr w2 := (by exact blw); have HO2 := Lib.hid (owns_below HO.out hbr (Nat.le_refl _)); have HB2 := Lib.hid (HB.out.trans (hbr.mono (by omega))); have HC2 := Lib.hid ((hbr.block _ hl2r).trans HC.out); clear ho hbr)))); refine HK_.out _ _ (wld_ofA) ?_; clear HK_)
        (refine z_last gtA (by rfl) (by rfl) (by rfl) (fun K_ hK_ => ?_); have HK_ := Lib.hid hK_; clear hK_; (first | ((refine wpCopyRow _ _ 22 22 rfl 5 Try.underlying22 u8_one _ gb M c1 (bytesV (headL X M nA nK 2)) HO2.out 24 4 _ ⟨gd, 0, none⟩ 4 _ rfl rfl (bytesV (beN 4 (M + 4 * nA + 2 * nK))) (by rw [bytesV_length, HDL.out]; rfl) (fun j v hj => by obtain ⟨p, hp, hc⟩ := HD2.out j v hj; cases hp; exact hc) (by rw [bytesV_length, HDL.out]; omega) (bytesV_one _) ?_; intro w3 ho3 hk3 hz3 hb3; rw [bytesV_splice] at ho3; have HO3 := Lib.hid ho3; have HK3 := Lib.hid (show ∀ k, k ≠ gb → w3.heap[k]? = w2.heap[k]? from hk3); have HZ3 := Lib.hid (show w3.heap.size = w2.heap.size from hz3); have HB3 := Lib.hid (show Below w.heap.size w w3 from HB2.out.trans (Below.mono hb3 (by omega))); clear ho3 hk3 hz3 hb3)) | (go_wp2_with (first | (go_at_call 54; (with_reducible refine (HPN.out _ (M + 4 * nA + 2 * nK) _ (by go_num) (by omega)).mono ?_); rintro e w2 ⟨a2, c2, rfl, ho, _, _, _, hb2, _⟩; obtain ⟨gd, rfl, _, _⟩ := owns_some ho (by decide); have HD2 := Lib.hid (has_of_owns ho); have hbr : Below wr.heap.size wr w2 := (by exact blw); have HO2 := Lib.hid (owns_below HO.out hbr (Nat.le_refl _)); have HB2 := Lib.hid (HB.out.trans (hbr.mono (by omega))); have HC2 := Lib.hid ((hbr.block _ hl2r).trans HC.out); clear ho hbr)))); refine HK_.out _ _ ?_; clear HK_)
        refine z_nil ?_
        clear hG_
        have c3 := (HK3.out _ hgb3).trans HC2.out
        have HO3B := Lib.hid (owns_mono HO3.out (show w.heap.size ≤ _ by first | omega | simp))
        go_wp2_with fail
        go_roundw
        case rel => exact ⟨3, by decide, by first | rfl | go_num, by rw [← HST.out]; exact HO3B.out, c3.trans C2.out.symm, HB3.out⟩
        case measure => simp [Go.RowKit.intOf]
    · obtain rfl : j = 3 := by omega
      have q3 := fun o => cell_of_heap HC.out o
      obtain ⟨Y, hY⟩ : ∃ Y, Y = headL X M nA nK 3 := ⟨_, rfl⟩
      rw [← hY] at HO HIB
      clear hY
      go_wp2_with fail
      go_loopw [3, 58] (fun b i wi => ∃ (j : Nat) (ab : Option Addr) (cb : Nat), j ≤ nA ∧ i = .int .i64 (j : Nat) ∧ b = .slice ab (M + 4 * j) cb ∧ wi.ownsRow w.heap.size 5 1 (.slice ab (M + 4 * j) cb) (M + 4 * j) (bytesV (Y ++ longs (acts.take j))) ∧ wi.heap[w.heap.size]? = w1.heap[w.heap.size]? ∧ Below w.heap.size w wi) (fun _ i _ => nA - (Go.RowKit.intOf i).toNat)
      case atStart => exact ⟨0, _, _, Nat.zero_le _, rfl, rfl, by have := HO.out; simpa [longs] using this, HC.out.trans C2.out.symm, HB.out⟩
      case round =>
        obtain ⟨j, ab, cb, hj, rfl, rfl, ho, hc, hb⟩ := hrel
        rename World => wa
        have HOwa := Lib.hid ho
        have HCwa := Lib.hid (hc.trans C2.out)
        have HBwa := Lib.hid hb
        have hzwa := hb.size
        clear ho hc hb
        by_cases hlt : j < nA
        · obtain ⟨bI, oI, hbI, hblI, hcI⟩ := (HHA.out.below HBwa.out).get (by rw [show (u32V acts).length = acts.length by simp [u32V], HNA.out]; omega)
          have e1 := hcI j _ (u32V_get acts j (by rw [HNA.out]; exact hlt))
          have hx : acts.getD j 0 ≤ 4294967295 := H32.out _ (by rw [List.getD_eq_getElem?_getD, List.getElem?_eq_getElem (by rw [HNA.out]; exact hlt)]; exact List.getElem_mem _)
          have HVS := Lib.hid (longs_snoc acts j (by rw [HNA.out]; exact hlt))
          generalize acts.getD j 0 = x at *
          have hc1 : IntKind.i64.wrap ((x : Nat) : Int) = (x : Int) := IntWalk.i64_in _ (by omega)
          have HP := Lib.hid (put_zz w.heap.size ab (M + 4 * j) cb x 4 (M + 4 * (j + 1)) (x : Int) 4 rfl rfl (by omega) _ wa HOwa.out hzwa (by omega) (by omega) (by decide))
          subst hbI
          clear hcI
          go_wp2_with (first | (go_at_call 54; (with_reducible refine HP.out.mono ?_); rintro e w6 ⟨a6, c6, rfl, ho6, _, _, _, hb6, hk6⟩; have HO6 := Lib.hid ho6; have HB6 := Lib.hid (HBwa.out.trans hb6); have HK6 := Lib.hid hk6; clear ho6 hb6 hk6))
          refine ⟨?_, ?measure⟩
          iterate 11 (apply Exists.intro)
          refine ⟨?_, ?_⟩
          rotate_left
          · rfl
          case measure => simp [Go.RowKit.intOf]; omega
          exact ⟨j + 1, a6, c6, hlt, by go_num, rfl, by rw [HVS.out, ← List.append_assoc]; exact HO6.out, (HK6.out.2 _ _ _ _ HCwa.out (by decide)).trans (HCwa.out.trans C2.out.symm), HB6.out⟩
        · obtain rfl : nA = j := by omega
          have howa := HOwa.out
          rw [List.take_of_length_le (by rw [HNA.out]; exact Nat.le_refl _)] at howa
          have q3a := fun o => cell_of_heap HCwa.out o
          have l3a := (Array.getElem?_eq_some_iff.1 HCwa.out).1
          have HOX := Lib.hid howa
          clear howa
          go_wp2_with fail
          go_loopw [3, 70] (fun b i wi => ∃ (j : Nat) (ab : Option Addr) (cb : Nat), j ≤ nK ∧ i = .int .i64 (j : Nat) ∧ b = .slice ab (M + 4 * nA + 2 * j) cb ∧ wi.ownsRow w.heap.size 5 1 (.slice ab (M + 4 * nA + 2 * j) cb) (M + 4 * nA + 2 * j) (bytesV (Y ++ longs acts ++ vals16 (comps.take j))) ∧ wi.heap[w.heap.size]? = w1.heap[w.heap.size]? ∧ Below w.heap.size w wi) (fun _ i _ => nK - (Go.RowKit.intOf i).toNat)
          case atStart => exact ⟨0, _, _, Nat.zero_le _, rfl, rfl, by have := HOX.out; simpa [vals16] using this, HCwa.out.trans C2.out.symm, HBwa.out⟩
          case round =>
            obtain ⟨j, ab, cb, hj, rfl, rfl, ho, hc, hb⟩ := hrel
            rename World => wk
            have HOwk := Lib.hid ho
            have HCwk := Lib.hid (hc.trans C2.out)
            have HBwk := Lib.hid hb
            have hzwk := hb.size
            clear ho hc hb
            by_cases hlt : j < nK
            · obtain ⟨bI, oI, hbI, hblI, hcI⟩ := (HHK.out.below HBwk.out).get (by rw [u16V_length, HNK.out]; omega)
              have e1 := hcI j _ (u16V_get comps j (by rw [HNK.out]; exact hlt))
              have hx : comps.getD j 0 ≤ 65535 := H16.out _ (by rw [List.getD_eq_getElem?_getD, List.getElem?_eq_getElem (by rw [HNK.out]; exact hlt)]; exact List.getElem_mem _)
              have HVS := Lib.hid (vals16_snoc comps j (by rw [HNK.out]; exact hlt))
              generalize comps.getD j 0 = x at *
              have hc1 : IntKind.i64.wrap ((x : Nat) : Int) = (x : Int) := IntWalk.i64_in _ (by omega)
              have HP := Lib.hid (put_zz w.heap.size ab (M + 4 * nA + 2 * j) cb x 2 (M + 4 * nA + 2 * (j + 1)) (x : Int) 2 rfl rfl (by omega) _ wk HOwk.out hzwk (by omega) (by omega) (by decide))
              subst hbI
              clear hcI
              go_wp2_with (first | (go_at_call 54; (with_reducible refine HP.out.mono ?_); rintro e w6 ⟨a6, c6, rfl, ho6, _, _, _, hb6, hk6⟩; have HO6 := Lib.hid ho6; have HB6 := Lib.hid (HBwk.out.trans hb6); have HK6 := Lib.hid hk6; clear ho6 hb6 hk6))
              refine ⟨?_, ?measure⟩
              iterate 11 (apply Exists.intro)
              refine ⟨?_, ?_⟩
              rotate_left
              · rfl
              case measure => simp [Go.RowKit.intOf]; omega
              exact ⟨j + 1, a6, c6, hlt, by go_num, rfl, by rw [HVS.out, ← List.append_assoc]; exact HO6.out, (HK6.out.2 _ _ _ _ HCwk.out (by decide)).trans (HCwk.out.trans C2.out.symm), HB6.out⟩
            · obtain rfl : nK = j := by omega
              have howk := HOwk.out
              rw [List.take_of_length_le (by rw [HNK.out]; exact Nat.le_refl _)] at howk
              have q3k := fun o => cell_of_heap HCwk.out o
              have l3k := (Array.getElem?_eq_some_iff.1 HCwk.out).1
              have HOY := Lib.hid howk
              clear howk
              go_wp2_with fail
              go_loopw [3, 82] (fun b i wi => ∃ (j : Nat) (ab : Option Addr) (cb : Nat), j ≤ nL ∧ i = .int .i64 (j : Nat) ∧ b = .slice ab (M + 4 * nA + 2 * nK + 2 * j) cb ∧ wi.ownsRow w.heap.size 5 1 (.slice ab (M + 4 * nA + 2 * nK + 2 * j) cb) (M + 4 * nA + 2 * nK + 2 * j) (bytesV (Y ++ longs acts ++ vals16 comps ++ vals16 (ligs.take j))) ∧ wi.heap[w.heap.size]? = w1.heap[w.heap.size]? ∧ Below w.heap.size w wi) (fun _ i _ => nL - (Go.RowKit.intOf i).toNat)
              case atStart => exact ⟨0, _, _, Nat.zero_le _, rfl, rfl, by have := HOY.out; simpa [vals16] using this, HCwk.out.trans C2.out.symm, HBwk.out⟩
              case round =>
                obtain ⟨j, ab, cb, hj, rfl, rfl, ho, hc, hb⟩ := hrel
                rename World => wl
                have HOwl := Lib.hid ho
                have HCwl := Lib.hid (hc.trans C2.out)
                have HBwl := Lib.hid hb
                have hzwl := hb.size
                clear ho hc hb
                by_cases hlt : j < nL
                · obtain ⟨bI, oI, hbI, hblI, hcI⟩ := (HHS.out.below HBwl.out).get (by rw [u16V_length, HNL.out]; omega)
                  have e1 := hcI j _ (u16V_get ligs j (by rw [HNL.out]; exact hlt))
                  have hx : ligs.getD j 0 ≤ 65535 := H17.out _ (by rw [List.getD_eq_getElem?_getD, List.getElem?_eq_getElem (by rw [HNL.out]; exact hlt)]; exact List.getElem_mem _)
                  have HVS := Lib.hid (vals16_snoc ligs j (by rw [HNL.out]; exact hlt))
                  generalize ligs.getD j 0 = x at *
                  have hc1 : IntKind.i64.wrap ((x : Nat) : Int) = (x : Int) := IntWalk.i64_in _ (by omega)
                  have HP := Lib.hid (put_zz w.heap.size ab (M + 4 * nA + 2 * nK + 2 * j) cb x 2 (M + 4 * nA + 2 * nK + 2 * (j + 1)) (x : Int) 2 rfl rfl (by omega) _ wl HOwl.out hzwl (by omega) (by omega) (by decide))
                  subst hbI
                  clear hcI
                  go_wp2_with (first | (go_at_call 54; (with_reducible refine HP.out.mono ?_); rintro e w6 ⟨a6, c6, rfl, ho6, _, _, _, hb6, hk6⟩; have HO6 := Lib.hid ho6; have HB6 := Lib.hid (HBwl.out.trans hb6); have HK6 := Lib.hid hk6; clear ho6 hb6 hk6))
                  refine ⟨?_, ?measure⟩
                  iterate 11 (apply Exists.intro)
                  refine ⟨?_, ?_⟩
                  rotate_left
                  · rfl
                  case measure => simp [Go.RowKit.intOf]; omega
                  exact ⟨j + 1, a6, c6, hlt, by go_num, rfl, by rw [HVS.out, ← List.append_assoc]; exact HO6.out, (HK6.out.2 _ _ _ _ HCwl.out (by decide)).trans (HCwl.out.trans C2.out.symm), HB6.out⟩
                · obtain rfl : nL = j := by omega
                  have howl := HOwl.out
                  rw [List.take_of_length_le (by rw [HNL.out]; exact Nat.le_refl _)] at howl
                  rw [← HIB.out] at howl
                  obtain ⟨_, _, e3, kb1, kb2, kb3⟩ := owns_slice howl
                  cases e3
                  have HOF := Lib.hid howl
                  clear howl
                  go_wp2_with fail
                  go_ret
                  rw [HIL.out]
                  exact ⟨ab, cb, rfl, HOF.out, kb1, kb2, kb3, HBwl.out⟩
end Go.Proofs.Ythehcbbdkiomnaa
end
section

/- What laws 17 and 18 ask first. No condition. -/
namespace Go.Proofs.Ythehcbbdkiomnaa
open Go.RowKit Go.Lib

set_option maxRecDepth 100000 in
set_option maxHeartbeats 6400000 in
theorem pair_any (w : World) : Calls Try.prog 32 #[] w fun e w' => ∃ (aC aR aE aA aK aL : Option Addr) (rv : List Value), e = .returned (.agg #[.slice aC 2 2, .slice aR 2 2, .slice aE 3 3, .int .u8 2, .slice aA 2 2, .slice aK 2 2, .slice aL 2 2]) ∧ PlanHas w' planP aC aR rv aE ∧ Has w' aA (u32V [0, 2147483648]) ∧ Has w' aK (u16V [0, 1]) ∧ Has w' aL (u16V [8, 9]) ∧ Below w.heap.size w w' := by
  have hAC := allocC
  have hAF := allocF
  go_enter Try.func32, Try.ntmps32
  go_wp2_with fail
  obtain ⟨w1, h1⟩ : ∃ w1, w1 = w.alloc (Obj.cells #[.slice (some ⟨w.heap.size + 1 + 1 + 1 + 1, 0, none⟩) 2 2, .slice (some ⟨w.heap.size + 1 + 1 + 1, 0, none⟩) 2 2, .slice (some ⟨w.heap.size + 1 + 1 + 1 + 1 + 1, 0, none⟩) 3 3, .int .u8 2, .slice (some ⟨w.heap.size + 1 + 1 + 1 + 1 + 1 + 1 + 1, 0, none⟩) 2 2, .slice (some ⟨w.heap.size + 1 + 1 + 1 + 1 + 1 + 1 + 1 + 1, 0, none⟩) 2 2, .slice (some ⟨w.heap.size + 1 + 1 + 1 + 1 + 1 + 1 + 1 + 1 + 1, 0, none⟩) 2 2] 55) := ⟨_, rfl⟩
  obtain ⟨w2, h2⟩ : ∃ w2, w2 = w1.alloc (Obj.cells #[.int .u8 0, .int .u8 0, .int .u8 0, .int .u8 0, .int .u8 1, .int .u8 2] 5) := ⟨_, rfl⟩
  obtain ⟨w3, h3⟩ : ∃ w3, w3 = w2.alloc (Obj.cells #[.int .u8 0, .int .u8 0, .int .u8 0, .int .u8 0, .int .u8 1, .int .u8 2] 5) := ⟨_, rfl⟩
  obtain ⟨w4, h4⟩ : ∃ w4, w4 = w3.alloc (Obj.cells #[.slice (some ⟨w.heap.size + 1, 0, none⟩) 6 6, .slice (some ⟨w.heap.size + 1 + 1, 0, none⟩) 6 6] 22) := ⟨_, rfl⟩
  obtain ⟨w5, h5⟩ : ∃ w5, w5 = w4.alloc (Obj.cells #[.int .u8 4, .int .u8 5] 5) := ⟨_, rfl⟩
  obtain ⟨w6, h6⟩ : ∃ w6, w6 = w5.alloc (Obj.cells #[.int .i64 0, .int .i64 0, .int .i64 0, .int .i64 0, .int .i64 0, .int .i64 32768, .int .i64 0, .int .i64 0, .int .i64 0, .int .i64 40960, .int .i64 0, .int .i64 0] 59) := ⟨_, rfl⟩
  obtain ⟨w7, h7⟩ : ∃ w7, w7 = w6.alloc (Obj.cells #[.slice (some ⟨w.heap.size + 1 + 1 + 1 + 1, 0, none⟩) 2 2, .slice (some ⟨w.heap.size + 1 + 1 + 1, 0, none⟩) 2 2, .slice (some ⟨w.heap.size + 1 + 1 + 1 + 1 + 1, 0, none⟩) 3 3, .int .u8 2] 51) := ⟨_, rfl⟩
  obtain ⟨w8, h8⟩ : ∃ w8, w8 = w7.alloc (Obj.cells #[.int .u32 0, .int .u32 2147483648] 72) := ⟨_, rfl⟩
  obtain ⟨w9, h9⟩ : ∃ w9, w9 = w8.alloc (Obj.cells #[.int .u16 0, .int .u16 1] 81) := ⟨_, rfl⟩
  obtain ⟨w10, h10⟩ : ∃ w10, w10 = w9.alloc (Obj.cells #[.int .u16 8, .int .u16 9] 81) := ⟨_, rfl⟩
  have z1 : w1.heap.size = w.heap.size + 1 := by rw [h1, World.size_alloc]
  have b1 : Below w.heap.size w w1 := by rw [h1]; exact balloc (brefl w) _
  have z2 : w2.heap.size = w.heap.size + 1 + 1 := by rw [h2, World.size_alloc, z1]
  have b2 : Below w1.heap.size w1 w2 := by rw [h2]; exact balloc (brefl w1) _
  have z3 : w3.heap.size = w.heap.size + 1 + 1 + 1 := by rw [h3, World.size_alloc, z2]
  have b3 : Below w2.heap.size w2 w3 := by rw [h3]; exact balloc (brefl w2) _
  have z4 : w4.heap.size = w.heap.size + 1 + 1 + 1 + 1 := by rw [h4, World.size_alloc, z3]
  have b4 : Below w3.heap.size w3 w4 := by rw [h4]; exact balloc (brefl w3) _
  have z5 : w5.heap.size = w.heap.size + 1 + 1 + 1 + 1 + 1 := by rw [h5, World.size_alloc, z4]
  have b5 : Below w4.heap.size w4 w5 := by rw [h5]; exact balloc (brefl w4) _
  have z6 : w6.heap.size = w.heap.size + 1 + 1 + 1 + 1 + 1 + 1 := by rw [h6, World.size_alloc, z5]
  have b6 : Below w5.heap.size w5 w6 := by rw [h6]; exact balloc (brefl w5) _
  have z7 : w7.heap.size = w.heap.size + 1 + 1 + 1 + 1 + 1 + 1 + 1 := by rw [h7, World.size_alloc, z6]
  have b7 : Below w6.heap.size w6 w7 := by rw [h7]; exact balloc (brefl w6) _
  have z8 : w8.heap.size = w.heap.size + 1 + 1 + 1 + 1 + 1 + 1 + 1 + 1 := by rw [h8, World.size_alloc, z7]
  have b8 : Below w7.heap.size w7 w8 := by rw [h8]; exact balloc (brefl w7) _
  have z9 : w9.heap.size = w.heap.size + 1 + 1 + 1 + 1 + 1 + 1 + 1 + 1 + 1 := by rw [h9, World.size_alloc, z8]
  have b9 : Below w8.heap.size w8 w9 := by rw [h9]; exact balloc (brefl w8) _
  have z10 : w10.heap.size = w.heap.size + 1 + 1 + 1 + 1 + 1 + 1 + 1 + 1 + 1 + 1 := by rw [h10, World.size_alloc, z9]
  have b10 : Below w9.heap.size w9 w10 := by rw [h10]; exact balloc (brefl w9) _
  have t10 := brefl w10
  have t9 := bthen b10 t10
  have t8 := bthen b9 t9
  have t7 := bthen b8 t8
  have t6 := bthen b7 t7
  have t5 := bthen b6 t6
  have t4 := bthen b5 t5
  have t3 := bthen b4 t4
  have t2 := bthen b3 t3
  have t1 := bthen b2 t2
  have t0 := bthen b1 t1
  have g1 := has_alloc w #[.slice (some ⟨w.heap.size + 1 + 1 + 1 + 1, 0, none⟩) 2 2, .slice (some ⟨w.heap.size + 1 + 1 + 1, 0, none⟩) 2 2, .slice (some ⟨w.heap.size + 1 + 1 + 1 + 1 + 1, 0, none⟩) 3 3, .int .u8 2, .slice (some ⟨w.heap.size + 1 + 1 + 1 + 1 + 1 + 1 + 1, 0, none⟩) 2 2, .slice (some ⟨w.heap.size + 1 + 1 + 1 + 1 + 1 + 1 + 1 + 1, 0, none⟩) 2 2, .slice (some ⟨w.heap.size + 1 + 1 + 1 + 1 + 1 + 1 + 1 + 1 + 1, 0, none⟩) 2 2] 55
  rw [← h1] at g1
  have g2 := has_alloc w1 #[.int .u8 0, .int .u8 0, .int .u8 0, .int .u8 0, .int .u8 1, .int .u8 2] 5
  rw [← h2, z1] at g2
  have g3 := has_alloc w2 #[.int .u8 0, .int .u8 0, .int .u8 0, .int .u8 0, .int .u8 1, .int .u8 2] 5
  rw [← h3, z2] at g3
  have g4 := has_alloc w3 #[.slice (some ⟨w.heap.size + 1, 0, none⟩) 6 6, .slice (some ⟨w.heap.size + 1 + 1, 0, none⟩) 6 6] 22
  rw [← h4, z3] at g4
  have g5 := has_alloc w4 #[.int .u8 4, .int .u8 5] 5
  rw [← h5, z4] at g5
  have g6 := has_alloc w5 #[.int .i64 0, .int .i64 0, .int .i64 0, .int .i64 0, .int .i64 0, .int .i64 32768, .int .i64 0, .int .i64 0, .int .i64 0, .int .i64 40960, .int .i64 0, .int .i64 0] 59
  rw [← h6, z5] at g6
  have g7 := has_alloc w6 #[.slice (some ⟨w.heap.size + 1 + 1 + 1 + 1, 0, none⟩) 2 2, .slice (some ⟨w.heap.size + 1 + 1 + 1, 0, none⟩) 2 2, .slice (some ⟨w.heap.size + 1 + 1 + 1 + 1 + 1, 0, none⟩) 3 3, .int .u8 2] 51
  rw [← h7, z6] at g7
  have g8 := has_alloc w7 #[.int .u32 0, .int .u32 2147483648] 72
  rw [← h8, z7] at g8
  have g9 := has_alloc w8 #[.int .u16 0, .int .u16 1] 81
  rw [← h9, z8] at g9
  have g10 := has_alloc w9 #[.int .u16 8, .int .u16 9] 81
  rw [← h10, z9] at g10
  have HP : PlanHas w10 planP (some ⟨w.heap.size + 1 + 1 + 1 + 1, 0, none⟩) (some ⟨w.heap.size + 1 + 1 + 1, 0, none⟩) [.slice (some ⟨w.heap.size + 1, 0, none⟩) 6 6, .slice (some ⟨w.heap.size + 1 + 1, 0, none⟩) 6 6] (some ⟨w.heap.size + 1 + 1 + 1 + 1 + 1, 0, none⟩) := ⟨g5.below t5, g4.below t4, rfl, fun i r hr => by
    match i, hr with
    | 0, hr => simp [planP] at hr; subst hr; exact ⟨_, 6, rfl, g2.below t2⟩
    | 1, hr => simp [planP] at hr; subst hr; exact ⟨_, 6, rfl, g3.below t3⟩
    | n + 2, hr => simp [planP] at hr, g6.below t6⟩
  rw [← h1, ← h2, ← h3, ← h4, ← h5, ← h6, ← h7, ← h8, ← h9, ← h10]
  have q0 := fun o => cell_of_heap (show w10.heap[w.heap.size]? = some (.cells #[.slice (some ⟨w.heap.size + 1 + 1 + 1 + 1, 0, none⟩) 2 2, .slice (some ⟨w.heap.size + 1 + 1 + 1, 0, none⟩) 2 2, .slice (some ⟨w.heap.size + 1 + 1 + 1 + 1 + 1, 0, none⟩) 3 3, .int .u8 2, .slice (some ⟨w.heap.size + 1 + 1 + 1 + 1 + 1 + 1 + 1, 0, none⟩) 2 2, .slice (some ⟨w.heap.size + 1 + 1 + 1 + 1 + 1 + 1 + 1 + 1, 0, none⟩) 2 2, .slice (some ⟨w.heap.size + 1 + 1 + 1 + 1 + 1 + 1 + 1 + 1 + 1, 0, none⟩) 2 2] 55 (0, 0)) from (t1.block _ (by rw [z1]; omega)).trans (by rw [h1]; exact (heap_push _ _ _).trans (if_pos rfl))) o
  refine bodyPost_ret (v := .agg #[.slice (some ⟨w.heap.size + 1 + 1 + 1 + 1, 0, none⟩) 2 2, .slice (some ⟨w.heap.size + 1 + 1 + 1, 0, none⟩) 2 2, .slice (some ⟨w.heap.size + 1 + 1 + 1 + 1 + 1, 0, none⟩) 3 3, .int .u8 2, .slice (some ⟨w.heap.size + 1 + 1 + 1 + 1 + 1 + 1 + 1, 0, none⟩) 2 2, .slice (some ⟨w.heap.size + 1 + 1 + 1 + 1 + 1 + 1 + 1 + 1, 0, none⟩) 2 2, .slice (some ⟨w.heap.size + 1 + 1 + 1 + 1 + 1 + 1 + 1 + 1 + 1, 0, none⟩) 2 2]) (by simp [results, Try.results32, go_sem, q0]) rfl ?_
  exact ⟨_, _, _, _, _, _, _, rfl, HP, g8.below t8, g9.below t9, g10.below t10, t0⟩
def bytesP : List UInt8 := pairB [0, 2147483648]
theorem bytesP_len : bytesP.length = 96 := by decide
theorem okP (glyphs : Nat) : JOk bytesP glyphs rsP 2 := pairJOk [0, 2147483648] glyphs (by decide) (by decide) 1 (by decide) (by decide)
def runP : LX × Nat × Nat := ligD bytesP rsP (bytesP.drop (num bytesP 16 4)) (bytesP.drop (num bytesP 20 4)) (bytesP.drop (num bytesP 24 4)) [(0, 0), (1, 1)]
theorem runP_eq : ligD bytesP rsP (bytesP.drop (num bytesP 16 4)) (bytesP.drop (num bytesP 20 4)) (bytesP.drop (num bytesP 24 4)) [(0, 0), (1, 1)] = runP := rfl
theorem runP_is : runP.1.1 = [(9, 0), (65535, 1)] ∧ runP.2.2 = 0 := by constructor <;> decide +kernel
theorem planP_wf : ∀ e ∈ planP.ents, wfI e.1 ∧ wfI e.2.1 ∧ wfI e.2.2.1 ∧ wfI e.2.2.2 := by
  intro e he
  simp only [planP, List.mem_cons, List.not_mem_nil, or_false] at he
  rcases he with rfl | rfl | rfl <;> · unfold wfI; decide
theorem writeP (aC aR aE aA aK aL : Option Addr) (rv : List Value) (cC cR cE cA cK cL : Nat) (acts : List Nat) (n : Nat) (hn : acts.length = n) (hn1 : n ≤ 1000) (h32 : ∀ x ∈ acts, x ≤ 4294967295) (w : World) (h : PlanHas w planP aC aR rv aE) (hA : Has w aA (u32V acts)) (hK : Has w aK (u16V [0, 1])) (hL : Has w aL (u16V [8, 9])) :
    Calls Try.prog 20 #[.agg #[.slice aC 2 cC, .slice aR 2 cR, .slice aE 3 cE, .int .u8 2, .slice aA n cA, .slice aK 2 cK, .slice aL 2 cL]] w fun e w' => ∃ a' c', e = .returned (.slice a' (88 + 4 * n) c') ∧ w'.ownsRow w.heap.size 5 1 (.slice a' (88 + 4 * n) c') (88 + 4 * n) (bytesV (pairB acts)) ∧ Below w.heap.size w w' := by
  have := write17_any planP aC aR aE rv cC cR cE aA aK aL n cA 2 cK 2 cL acts [0, 1] [8, 9] w h (by decide) (by decide) (by decide) planP_wf hA hn hn1 h32 hK rfl (by decide) (by decide) hL rfl (by decide) (by decide)
  rw [show ligB planP acts [0, 1] [8, 9] = pairB acts from rfl, pairB_length acts, hn] at this
  refine this.mono ?_
  rintro e w' ⟨a', c', h1, h2, _, _, _, h6⟩
  exact ⟨a', c', h1, h2, h6⟩
theorem runP_any (B gt gl : Nat) (a : Option Addr) (c : Nat) (w : World) {Bm : Nat} (hT : JIs 0 Bm gt bytesP rsP 2 w) (hG : GIs B gl a c [(0, 0), (1, 1)] w) (hB : B ≤ w.heap.size) (hBl : B ≤ gl) :
    Calls Try.prog 14 #[.pointer (some ⟨gt, 0, none⟩), .pointer (some ⟨gl, 0, none⟩)] w fun e w' => e = .returned (.int .i64 0) ∧ (∃ a' c', GIs B gl a' c' [(9, 0), (65535, 1)] w') ∧ Below B w w' := by
  refine (jrun_any 0 Bm gt bytesP 9 rsP 2 B gl a c [(0, 0), (1, 1)] w hT (okP 9) (by decide) (by decide) (Nat.zero_le _) hBl hG hB (by unfold IdsOk; decide) (by decide)).mono ?_
  rw [runP_eq, runP_is.1, runP_is.2]
  rintro e w' ⟨rfl, ⟨a', c', hg, _⟩, hk⟩
  exact ⟨rfl, ⟨a', c', hg⟩, hk.below⟩
set_option maxRecDepth 100000 in
set_option maxHeartbeats 6400000 in
theorem speaks17_any (w : World) : Calls Try.prog 10 #[] w fun e w' => e = .returned (.bool true) ∧ Below w.heap.size w w' := by
  have hAC := allocC
  have hAF := allocF
  have e01 : newG [0, 1] = [(0, 0), (1, 1)] := by rfl
  go_enter Try.func10, Try.ntmps10
  go_wp2_with (first
    | (go_at_call 32; (with_reducible refine (pair_any w).mono ?_); rintro e w8 ⟨aC, aR, aE, aA, aK, aL, rv, rfl, hP, hA, hK, hL, hb8⟩; have HB8 := Lib.hid hb8; have HW := Lib.hid (writeP aC aR aE aA aK aL rv 2 2 3 2 2 2 [0, 2147483648] 2 rfl (by decide) (by decide) w8 hP hA hK hL); clear hP hA hK hL hb8)
    | (go_at_call 20; (with_reducible refine HW.out.mono ?_); rintro e w9 ⟨a9, c9, rfl, ho9, hb9⟩; have HH9 := Lib.hid (show Has w9 a9 (bytesV bytesP) from has_of_owns ho9); have HB9 := Lib.hid (HB8.out.trans (hb9.mono HB8.out.size)); clear ho9 hb9)
    | (go_at_call 11; (with_reducible refine (jread_some a9 96 c9 bytesP 9 9 rfl rsP 2 w9 HH9.out bytesP_len (by decide) (by decide) (by decide) (okP 9)).mono ?_); rintro e w10 ⟨gt, rfl, hT, hb10⟩; have HT := Lib.hid hT; have HB10 := Lib.hid (HB9.out.trans (hb10.mono HB9.out.size)); clear hT hb10)
    | (go_at_call 13; (with_reducible refine (gnew_any (some ⟨w10.heap.size, 0, none⟩) 2 2 [0, 1] (w10.alloc (.cells #[.int .i64 0, .int .i64 1] 3)) (has_alloc w10 _ _) rfl (by decide)).mono ?_); rintro e w11 ⟨gl, a11, c11, rfl, hG, hgl, hb11⟩; rw [e01] at hG; have hb78 := (balloc (brefl w10) (.cells #[.int .i64 0, .int .i64 1] 3)).trans (hb11.mono (by simp)); have HT11 := Lib.hid (HT.out.below hb78); have HB11 := Lib.hid (HB10.out.trans (hb78.mono HB10.out.size)); have HG11 := Lib.hid (hG.mono (show w.heap.size ≤ _ from by have := HB10.out.size; simp only [World.size_alloc]; omega)); have hgl2 : w.heap.size ≤ gl := (by have := HB10.out.size; simp only [World.size_alloc] at hgl; omega); have HX := Lib.hid (runP_any w.heap.size gt gl a11 c11 w11 HT11.out HG11.out HB11.out.size hgl2); clear hG hb11 hb78 hgl)
    | (go_at_call 14; (with_reducible refine HX.out.mono ?_); rintro e w12 ⟨rfl, ⟨a12, c12, hG⟩, hb12⟩; have HG12 := Lib.hid hG; have HB12 := Lib.hid (HB11.out.trans hb12); clear hG hb12)
    | (go_at_call 18; (with_reducible refine (gglyphs_any w.heap.size gl a12 c12 _ w12 HG12.out (by decide)).mono ?_); rintro e w13 ⟨a13, c13, rfl, ho, _, _, _, hb13⟩; have HH13 := Lib.hid (has_of_owns ho); have HB13 := Lib.hid (HB12.out.trans (hb13.mono HB12.out.size)); clear ho hb13)
    | (go_at_call 17; (refine (refSameG_any a13 (some ⟨w13.heap.size, 0, none⟩) 2 c13 2 2 [(9, 0), (65535, 1)] [(9, 0), (65535, 1)] (w13.alloc (.cells #[.int .i64 9, .int .i64 0, .int .i64 65535, .int .i64 1] 100)) (HH13.out.below (balloc (brefl w13) _)) rfl (has_alloc w13 #[.int .i64 9, .int .i64 0, .int .i64 65535, .int .i64 1] 100) rfl (by decide) (by decide)).mono ?_); rintro e w14 ⟨rfl, hb14⟩; rw [decide_eq_true rfl]; have HB14 := Lib.hid (HB13.out.trans ((balloc (brefl w13) (.cells #[.int .i64 9, .int .i64 0, .int .i64 65535, .int .i64 1] 100)).trans (hb14.mono (by simp)) |>.mono HB13.out.size)); clear hb14))
  go_ret
  exact ⟨rfl, HB14.out⟩
end Go.Proofs.Ythehcbbdkiomnaa
end
section

/- What an argument that is a plan of layer 17 or 18 is; the contracts of the two laws' small. Conditions: as each says. -/
namespace Go.Proofs.Ythehcbbdkiomnaa
section
open Go.ChangeShapes Go.WideShapes Go.ChangeAt Go.RowKit
variable {H : Type} {enc : TypeId × Value → H}
theorem open_u32C {P : Program} {W : World} {t e : TypeId} {f : Nat} {v : Value} {y : DataW H × List MemPlace} (ht : P.underlying t = some (.slice e)) (he : P.underlying e = some (.int .u32))
    (h : DataW.trod enc P W 0 (fun _ => true) true f t [v] = some y) : ∃ (a : Option Addr) (c : Nat) (ss : List Nat), v = .slice a ss.length c ∧ Has W a (u32V ss) ∧ (∀ x ∈ ss, x ≤ 4294967295) ∧ ss.length ≤ c ∧ c ≤ maxLen := by
  obtain ⟨a, n, c, us, rfl, hl, hc1, hc2, _, hh, hx⟩ := open_rows_cell ht h
  have key : ∀ us : List (List Value), (∀ x ∈ us, ∃ m y, DataW.trod enc P W 0 (fun _ => true) true m e x = some y) → ∃ ss : List Nat, ss.length = us.length ∧ us.flatten = u32V ss ∧ ∀ x ∈ ss, x ≤ 4294967295 := by
    intro us
    induction us with
    | nil => exact fun _ => ⟨[], rfl, rfl, fun x hx => by cases hx⟩
    | cons x us ih =>
      intro h
      obtain ⟨ss, h1, h2, h3⟩ := ih (fun y hy => h y (by simp [hy]))
      obtain ⟨m, y, hy⟩ := h x (by simp)
      obtain ⟨z, rfl, _, hw⟩ := DataW.trod_int he hy
      obtain ⟨k, rfl, hk⟩ := wf_u32 hw
      refine ⟨k :: ss, by simp [h1], by simp [h2, u32V], fun x hx => ?_⟩
      rcases List.mem_cons.1 hx with rfl | hx
      · exact hk
      · exact h3 x hx
  obtain ⟨ss, h1, h2, h3⟩ := key us (fun x hx' => (hx x hx').2)
  exact ⟨a, c, ss, by rw [h1, hl], h2 ▸ hh, h3, by omega, hc2⟩
theorem array7 {α : Type} {cs : Array α} (h : cs.size = 7) : ∃ c0 c1 c2 c3 c4 c5 c6, cs = #[c0, c1, c2, c3, c4, c5, c6] := by
  obtain ⟨l⟩ := cs
  match l, h with
  | [c0, c1, c2, c3, c4, c5, c6], _ => exact ⟨c0, c1, c2, c3, c4, c5, c6, rfl⟩
set_option maxRecDepth 100000 in
theorem open_plan17 {W : World} {base : Nat} {v : Value} {d : DataW H} {pl : List MemPlace} (hv : Value.okWide Try.prog W .any base 55 v) (h : DataW.Trod enc Try.prog W 0 (fun _ => true) true 55 v d pl) :
    ∃ (p : PlanL) (aC aR aE : Option Addr) (rv : List Value) (cC cR cE : Nat) (aA : Option Addr) (cA : Nat) (acts : List Nat) (aK : Option Addr) (cK : Nat) (comps : List Nat) (aL : Option Addr) (cL : Nat) (ligs : List Nat), v = .agg #[.slice aC p.cls.length cC, .slice aR p.rows.length cR, .slice aE p.ents.length cE, .int .u8 (p.wide.toNat : Nat), .slice aA acts.length cA, .slice aK comps.length cK, .slice aL ligs.length cL] ∧ PlanHas W p aC aR rv aE ∧ (∀ e ∈ p.ents, wfI e.1 ∧ wfI e.2.1 ∧ wfI e.2.2.1 ∧ wfI e.2.2.2) ∧ (aE = none → cE = 0) ∧ (Has W aA (u32V acts) ∧ (∀ x ∈ acts, x ≤ 4294967295) ∧ acts.length ≤ cA ∧ cA ≤ maxLen) ∧ (Has W aK (u16V comps) ∧ (∀ x ∈ comps, x ≤ 65535)) ∧ Has W aL (u16V ligs) ∧ (∀ x ∈ ligs, x ≤ 65535) := by
  obtain ⟨cs, rfl, hsz⟩ := okWide_struct Try.underlying55 hv
  have h7 : Try.prog.cellsOf 55 = 7 := by kernel_rfl
  obtain ⟨v0, v1, v2, v3, v4, v5, v6, rfl⟩ := array7 (hsz.trans h7)
  obtain ⟨fuel, hf⟩ := h
  obtain ⟨y0, y1, y2, y3, n, _, _, h0, h1, h2, h3⟩ := Go.Joins.trod_struct4 Try.underlying55 hf
  change DataW.trod enc Try.prog W 0 (fun _ => true) true n 51 [v0, v1, v2, v3] = some y0 at h0
  change DataW.trod enc Try.prog W 0 (fun _ => true) true n 52 [v4] = some y1 at h1
  change DataW.trod enc Try.prog W 0 (fun _ => true) true n 53 [v5] = some y2 at h2
  change DataW.trod enc Try.prog W 0 (fun _ => true) true n 53 [v6] = some y3 at h3
  obtain ⟨p, aC, aR, aE, rv, cC, cR, cE, rfl, rfl, rfl, rfl, hP, hw, hE⟩ := open_planCells h0
  obtain ⟨aA, cA, acts, rfl, hA, h32, q1, q2⟩ := open_u32C Try.underlying52 Try.underlying72 h1
  obtain ⟨aK, cK, comps, rfl, hK, h16⟩ := open_u16C Try.underlying53 Try.underlying81 h2
  obtain ⟨aL, cL, ligs, rfl, hS, h17⟩ := open_u16C Try.underlying53 Try.underlying81 h3
  exact ⟨p, aC, aR, aE, rv, cC, cR, cE, aA, cA, acts, aK, cK, comps, aL, cL, ligs, rfl, hP, hw, hE, ⟨hA, h32, q1, q2⟩, ⟨hK, h16⟩, hS, h17⟩
end

open Go.RowKit Go.Lib
def Sm17 (nC nR nE nA nK nL nI : Nat) : Prop := nC ≤ 40 ∧ nR ≤ 20 ∧ nE ≤ 40 ∧ nA ≤ 60 ∧ nK ≤ 100 ∧ nL ≤ 100 ∧ nI ≤ 100
set_option maxRecDepth 100000 in
set_option maxHeartbeats 3200000 in
theorem small17_any (aC aR aE aA aK aL aI : Option Addr) (nC nR nE nA nK nL nI cC cR cE cA cK cL cI : Nat) (y : Int) (w : World) :
    Calls Try.prog 19 #[.agg #[.slice aC nC cC, .slice aR nR cR, .slice aE nE cE, .int .u8 y, .slice aA nA cA, .slice aK nK cK, .slice aL nL cL], .slice aI nI cI] w fun e w' => (∃ b : Bool, e = .returned (.bool b) ∧ (b = true ↔ Sm17 nC nR nE nA nK nL nI)) ∧ Below w.heap.size w w' := by
  have hAC := allocC
  have hAF := allocF
  by_cases h0 : nC ≤ 40
  case neg =>
    have d0 : decide ((nC : Int) ≤ 40) = false := by simp; omega
    have HNO := Lib.hid (show ¬ Sm17 nC nR nE nA nK nL nI from fun h => h0 h.1)
    clear h0
    go_enter Try.func19, Try.ntmps19
    go_wp2_with fail
    go_ret
    exact ⟨⟨false, rfl, by simp [HNO.out]⟩, blw⟩
  have d0 : decide ((nC : Int) ≤ 40) = true := by simp; omega
  by_cases h1 : nR ≤ 20
  case neg =>
    have d1 : decide ((nR : Int) ≤ 20) = false := by simp; omega
    have HNO := Lib.hid (show ¬ Sm17 nC nR nE nA nK nL nI from fun h => h1 h.2.1)
    clear h0 h1
    go_enter Try.func19, Try.ntmps19
    go_wp2_with fail
    go_ret
    exact ⟨⟨false, rfl, by simp [HNO.out]⟩, blw⟩
  have d1 : decide ((nR : Int) ≤ 20) = true := by simp; omega
  by_cases h2 : nE ≤ 40
  case neg =>
    have d2 : decide ((nE : Int) ≤ 40) = false := by simp; omega
    have HNO := Lib.hid (show ¬ Sm17 nC nR nE nA nK nL nI from fun h => h2 h.2.2.1)
    clear h0 h1 h2
    go_enter Try.func19, Try.ntmps19
    go_wp2_with fail
    go_ret
    exact ⟨⟨false, rfl, by simp [HNO.out]⟩, blw⟩
  have d2 : decide ((nE : Int) ≤ 40) = true := by simp; omega
  by_cases h3 : nA ≤ 60
  case neg =>
    have d3 : decide ((nA : Int) ≤ 60) = false := by simp; omega
    have HNO := Lib.hid (show ¬ Sm17 nC nR nE nA nK nL nI from fun h => h3 h.2.2.2.1)
    clear h0 h1 h2 h3
    go_enter Try.func19, Try.ntmps19
    go_wp2_with fail
    go_ret
    exact ⟨⟨false, rfl, by simp [HNO.out]⟩, blw⟩
  have d3 : decide ((nA : Int) ≤ 60) = true := by simp; omega
  by_cases h4 : nK ≤ 100
  case neg =>
    have d4 : decide ((nK : Int) ≤ 100) = false := by simp; omega
    have HNO := Lib.hid (show ¬ Sm17 nC nR nE nA nK nL nI from fun h => h4 h.2.2.2.2.1)
    clear h0 h1 h2 h3 h4
    go_enter Try.func19, Try.ntmps19
    go_wp2_with fail
    go_ret
    exact ⟨⟨false, rfl, by simp [HNO.out]⟩, blw⟩
  have d4 : decide ((nK : Int) ≤ 100) = true := by simp; omega
  by_cases h5 : nL ≤ 100
  case neg =>
    have d5 : decide ((nL : Int) ≤ 100) = false := by simp; omega
    have HNO := Lib.hid (show ¬ Sm17 nC nR nE nA nK nL nI from fun h => h5 h.2.2.2.2.2.1)
    clear h0 h1 h2 h3 h4 h5
    go_enter Try.func19, Try.ntmps19
    go_wp2_with fail
    go_ret
    exact ⟨⟨false, rfl, by simp [HNO.out]⟩, blw⟩
  have d5 : decide ((nL : Int) ≤ 100) = true := by simp; omega
  by_cases h6 : nI ≤ 100
  case neg =>
    have d6 : decide ((nI : Int) ≤ 100) = false := by simp; omega
    have HNO := Lib.hid (show ¬ Sm17 nC nR nE nA nK nL nI from fun h => h6 h.2.2.2.2.2.2)
    clear h0 h1 h2 h3 h4 h5 h6
    go_enter Try.func19, Try.ntmps19
    go_wp2_with fail
    go_ret
    exact ⟨⟨false, rfl, by simp [HNO.out]⟩, blw⟩
  have d6 : decide ((nI : Int) ≤ 100) = true := by simp; omega
  have HYES := Lib.hid (show Sm17 nC nR nE nA nK nL nI from ⟨h0, h1, h2, h3, h4, h5, h6⟩)
  clear h0 h1 h2 h3 h4 h5 h6
  go_enter Try.func19, Try.ntmps19
  go_wp2_with fail
  go_ret
  exact ⟨⟨true, rfl, by simp [HYES.out]⟩, blw⟩
end Go.Proofs.Ythehcbbdkiomnaa
end
section

/- A struct of twelve cells written at once; the document's last of layer 17. No condition beside what each says. -/
namespace Go.Proofs.Ythehcbbdkiomnaa
open Go.RowKit Go.Lib

theorem heap12_at {W : World} {g : Nat} {x0 x1 x2 x3 x4 x5 x6 x7 x8 x9 x10 x11 : Value} {t : TypeId} (h : W.heap[g]? = some (.cells #[x0, x1, x2, x3, x4, x5, x6, x7, x8, x9, x10, x11] t (0, 0))) (v0 v1 v2 v3 v4 v5 v6 v7 v8 v9 v10 v11 : Value) :
    ((((((((((((W.setCell ⟨g, 0, none⟩ v0).setCell ⟨g, 1, none⟩ v1).setCell ⟨g, 2, none⟩ v2).setCell ⟨g, 3, none⟩ v3).setCell ⟨g, 4, none⟩ v4).setCell ⟨g, 5, none⟩ v5).setCell ⟨g, 6, none⟩ v6).setCell ⟨g, 7, none⟩ v7).setCell ⟨g, 8, none⟩ v8).setCell ⟨g, 9, none⟩ v9).setCell ⟨g, 10, none⟩ v10).setCell ⟨g, 11, none⟩ v11).heap[g]? = some (.cells #[v0, v1, v2, v3, v4, v5, v6, v7, v8, v9, v10, v11] t (0, 0)) := by
  have h := set_heap_at (o := 0) v0 h
  have h := set_heap_at (o := 1) v1 h
  have h := set_heap_at (o := 2) v2 h
  have h := set_heap_at (o := 3) v3 h
  have h := set_heap_at (o := 4) v4 h
  have h := set_heap_at (o := 5) v5 h
  have h := set_heap_at (o := 6) v6 h
  have h := set_heap_at (o := 7) v7 h
  have h := set_heap_at (o := 8) v8 h
  have h := set_heap_at (o := 9) v9 h
  have h := set_heap_at (o := 10) v10 h
  have h := set_heap_at (o := 11) v11 h
  simpa using h
theorem below12 {B : Nat} {w W : World} (h : Below B w W) {g : Nat} (hg : B ≤ g) (v0 v1 v2 v3 v4 v5 v6 v7 v8 v9 v10 v11 : Value) :
    Below B w ((((((((((((W.setCell ⟨g, 0, none⟩ v0).setCell ⟨g, 1, none⟩ v1).setCell ⟨g, 2, none⟩ v2).setCell ⟨g, 3, none⟩ v3).setCell ⟨g, 4, none⟩ v4).setCell ⟨g, 5, none⟩ v5).setCell ⟨g, 6, none⟩ v6).setCell ⟨g, 7, none⟩ v7).setCell ⟨g, 8, none⟩ v8).setCell ⟨g, 9, none⟩ v9).setCell ⟨g, 10, none⟩ v10).setCell ⟨g, 11, none⟩ v11) := by
  exact ((((((((((((h.setCell (p := ⟨g, 0, none⟩) hg v0).setCell (p := ⟨g, 1, none⟩) hg v1).setCell (p := ⟨g, 2, none⟩) hg v2).setCell (p := ⟨g, 3, none⟩) hg v3).setCell (p := ⟨g, 4, none⟩) hg v4).setCell (p := ⟨g, 5, none⟩) hg v5).setCell (p := ⟨g, 6, none⟩) hg v6).setCell (p := ⟨g, 7, none⟩) hg v7).setCell (p := ⟨g, 8, none⟩) hg v8).setCell (p := ⟨g, 9, none⟩) hg v9).setCell (p := ⟨g, 10, none⟩) hg v10).setCell (p := ⟨g, 11, none⟩) hg v11)
set_option maxRecDepth 100000 in
theorem lastR_any (z : Int) (w : World) : Calls Try.prog 40 #[.int .i64 z] w fun e w' => e = .returned (.bool (decide (2147483648 ≤ z))) ∧ w = w' := by
  go_enter Try.func40, Try.ntmps40
  go_wp2_with fail
  go_ret
  exact ⟨rfl, rfl⟩
end Go.Proofs.Ythehcbbdkiomnaa
end
