/- Joined from: JWrite. -/
import Derived.Test.YtlgkikmmpnnnfaaJ01
import Derived.Test.YtlgkikmmpnnnfaaJ25
section

/- The law's Write of layer 17: a plan's bytes. Conditions: a plan in memory; sizes. -/
namespace Go.Proofs.Ytlgkikmmpnnnfaa
open Go.RowKit Go.Lib

theorem run_index3 (c : Array Value) (k : Nat) (z : Int) (hv : c[k]? = some (.int .i64 z)) (hk : k < 3) (w : World) : (Instr.index 124 (.agg c) (.int .i64 (k : Nat))).run Try.prog w = .ok (.int .i64 z) w := by
  have hu : Try.prog.underlying 124 = some (.array 3 3) := by kernel_rfl
  have hk1 : 0 ≤ (k : Int) ∧ (k : Int) < 3 := by omega
  simp [Instr.index, run_underlying hu, asIntOf, hk, go_sem, hv]
theorem longs_snoc (l : List Nat) (q : Nat) (h : q < l.length) : longs (l.take (q + 1)) = longs (l.take q) ++ beN 4 (l.getD q 0) := by
  unfold longs
  rw [List.take_add_one, List.flatMap_append, List.getElem?_eq_getElem h, List.getD_eq_getElem?_getD, List.getElem?_eq_getElem h]
  simp
/-- The three places, as far as they are laid. -/
def headL (X : List UInt8) (M nA nC : Nat) : Nat → List UInt8
  | 0 => X
  | 1 => splice X 16 (beN 4 M)
  | 2 => splice (splice X 16 (beN 4 M)) 20 (beN 4 (M + 4 * nA))
  | _ => splice (splice (splice X 16 (beN 4 M)) 20 (beN 4 (M + 4 * nA))) 24 (beN 4 (M + 4 * nA + 2 * nC))
def atL (M nA nC j : Nat) : Nat := if j = 0 then M else if j = 1 then M + 4 * nA else M + 4 * nA + 2 * nC
theorem headL_step (X : List UInt8) (M nA nC j : Nat) (h : j < 3) : splice (headL X M nA nC j) (16 + 4 * j) (beN 4 (atL M nA nC j)) = headL X M nA nC (j + 1) := by
  rcases j with _ | _ | _ | j
  · rfl
  · rfl
  · rfl
  · omega
theorem headL_length (X : List UInt8) (M nA nC j : Nat) (h : 28 ≤ X.length) : (headL X M nA nC j).length = X.length := by
  have e1 : (splice X 16 (beN 4 M)).length = X.length := length_splice _ _ _ (by rw [beN_length]; omega)
  have e2 : (splice (splice X 16 (beN 4 M)) 20 (beN 4 (M + 4 * nA))).length = X.length := (length_splice _ _ _ (by rw [beN_length, e1]; omega)).trans e1
  have e3 : (splice (splice (splice X 16 (beN 4 M)) 20 (beN 4 (M + 4 * nA))) 24 (beN 4 (M + 4 * nA + 2 * nC))).length = X.length := (length_splice _ _ _ (by rw [beN_length, e2]; omega)).trans e2
  rcases j with _ | _ | _ | j
  · rfl
  · exact e1
  · exact e2
  · exact e3
set_option maxRecDepth 100000 in
set_option maxHeartbeats 12800000 in
theorem write17_any (p : PlanL) (aC aR aE : Option Addr) (rv : List Value) (cC cR cE : Nat) (aA aK aL : Option Addr) (nA cA nK cK nL cL : Nat) (acts comps ligs : List Nat) (w : World) (h : PlanHas w p aC aR rv aE) (hC : p.cls.length ≤ 1000) (hR : p.rows.length ≤ 1000) (hE : p.ents.length ≤ 1000) (hwf : ∀ e ∈ p.ents, wfI e.1 ∧ wfI e.2.1 ∧ wfI e.2.2.1 ∧ wfI e.2.2.2)
    (hA : Has w aA (u32V acts)) (hnA : acts.length = nA) (hn1 : nA ≤ 1000) (h32 : ∀ x ∈ acts, x ≤ 4294967295)
    (hK : Has w aK (u16V comps)) (hnK : comps.length = nK) (hn2 : nK ≤ 1000) (h16 : ∀ x ∈ comps, x ≤ 65535)
    (hS : Has w aL (u16V ligs)) (hnL : ligs.length = nL) (hn3 : nL ≤ 1000) (h17 : ∀ x ∈ ligs, x ≤ 65535) :
    Calls Try.prog 24 #[.agg #[.slice aC p.cls.length cC, .slice aR p.rows.length cR, .slice aE p.ents.length cE, .int .u8 (p.wide.toNat : Nat), .slice aA nA cA, .slice aK nK cK, .slice aL nL cL]] w fun e w' => ∃ a' c', e = .returned (.slice a' (ligB p acts comps ligs).length c') ∧ w'.ownsRow w.heap.size 5 1 (.slice a' (ligB p acts comps ligs).length c') (ligB p acts comps ligs).length (bytesV (ligB p acts comps ligs)) ∧ (ligB p acts comps ligs).length ≤ c' ∧ c' ≤ maxLen ∧ (a' = none → c' = 0) ∧ Below w.heap.size w w' := by
  have hAC := allocC
  have hAF := allocF
  have HW := Lib.hid (fun W (hW : Below w.heap.size w W) => write_any p 1 12 1 12 rfl rfl aC aR aE rv cC cR cE W (h.below hW) hC hR hE (by decide) (by decide) hwf)
  have hlen := planL1 (p := p)
  have hn4 : p.n ≤ 11 := by unfold PlanL.n; omega
  have hrn : p.rows.length * p.n ≤ 11000 := Nat.le_trans (Nat.mul_le_mul hR hn4) (by decide)
  obtain ⟨M, hM⟩ : ∃ M, M = (planB p 1 12).length := ⟨_, rfl⟩
  obtain ⟨X, hX⟩ : ∃ X, X = planB p 1 12 := ⟨_, rfl⟩
  have hIB : ligB p acts comps ligs = headL X M nA nK 3 ++ longs acts ++ vals16 comps ++ vals16 ligs := by
    unfold ligB ligH
    rw [hX, hM, hnA, hnK]
    rfl
  rw [← hX] at hM
  rw [← hX, ← hM] at HW
  have hM1 : 34 ≤ M ∧ M ≤ 100000 := by rw [hM, hX]; omega
  have HX := Lib.hid hM
  have HIB := Lib.hid hIB
  have hIL : (ligB p acts comps ligs).length = M + 4 * nA + 2 * nK + 2 * nL := by rw [hIB, List.length_append, List.length_append, List.length_append, headL_length _ _ _ _ _ (by omega), ← hM, longs_length, vals16_length, vals16_length, hnA, hnK, hnL]
  have HIL := Lib.hid hIL
  have HHL := Lib.hid (fun j => headL_length X M nA nK j (by omega))
  have HHA := Lib.hid hA
  have HHK := Lib.hid hK
  have HHS := Lib.hid hS
  have HNA := Lib.hid hnA
  have HNK := Lib.hid hnK
  have HNL := Lib.hid hnL
  have H32 := Lib.hid h32
  have H16 := Lib.hid h16
  have H17 := Lib.hid h17
  have HPN := Lib.hid (fun W (v : Nat) (z : Int) (hz : z = (v : Nat)) (hv : v ≤ 1000000) => put_zz W.heap.size none 0 0 v 4 4 z 4 hz rfl rfl [] W (World.ownsRow_nil _ _ _ _) (Nat.le_refl _) (by omega) (by omega) (by omega))
  have HDL := Lib.hid (fun v => show (beN 4 v).length = 4 from beN_length 4 v)
  clear h hwf hA hnA h32 hK hnK h16 hS hnL h17 hIB hIL hM hX hlen hrn hn4
  go_enter Try.func24, Try.ntmps24
  go_wp2_with (go_at_call 59; (with_reducible refine (HW.out _ (by exact blw)).mono ?_); rintro e w1 ⟨a1, c1, rfl, ho1, k1, k2, k3, hb1⟩; have HO1 := Lib.hid ho1; have h1z := hb1.size; have c2 := (hb1.block w.heap.size (by simp)).trans (show (w.alloc (.cells #[.slice aC p.cls.length cC, .slice aR p.rows.length cR, .slice aE p.ents.length cE, .int .u8 (p.wide.toNat : Nat), .slice aA nA cA, .slice aK nK cK, .slice aL nL cL] 55)).heap[w.heap.size]? = some (.cells #[.slice aC p.cls.length cC, .slice aR p.rows.length cR, .slice aE p.ents.length cE, .int .u8 (p.wide.toNat : Nat), .slice aA nA cA, .slice aK nK cK, .slice aL nL cL] 55 (0, 0)) from by rw [heap_push, if_pos rfl]); have q2 := fun o => cell_of_heap c2 o; have l2 := (Array.getElem?_eq_some_iff.1 c2).1; have C2 := Lib.hid c2; have HB1 := Lib.hid (show Below w.heap.size w w1 from by exact blw); clear ho1 hb1 c2)
  obtain ⟨gb, rfl, hgb1, hgb2⟩ := owns_some HO1.out (by omega)
  simp only [World.size_alloc] at h1z hgb1
  have hgb3 : w.heap.size ≠ gb := by omega
  clear q2
  go_loopw [39] (fun i wr => ∃ j : Nat, j ≤ 3 ∧ i = .int .i64 (j : Nat) ∧ wr.ownsRow w.heap.size 5 1 (.slice (some ⟨gb, 0, none⟩) M c1) M (bytesV (headL X M nA nK j)) ∧ wr.heap[w.heap.size]? = w1.heap[w.heap.size]? ∧ Below w.heap.size w wr) (fun i _ => 3 - (Go.RowKit.intOf i).toNat)
  case atStart => exact ⟨0, by decide, rfl, owns_mono (owns_below HO1.out (balloc (brefl _) _) (Nat.le_refl _)) (by simp), (balloc (brefl w1) _).block _ l2, HB1.out.trans (Below.mono (balloc (brefl _) _) (by omega))⟩
  case round =>
    obtain ⟨j, hj, rfl, ho, hc, hb⟩ := hrel
    rename World => wr
    have HO := Lib.hid ho
    have HC := Lib.hid (hc.trans C2.out)
    have HB := Lib.hid hb
    have hzr := hb.size
    have hl2r := (Array.getElem?_eq_some_iff.1 HC.out).1
    have hgbr := (ho.lt gb rfl).2
    clear ho hc hb
    by_cases hlt : j < 3
    · have hst := headL_step X M nA nK j hlt
      rcases (show j = 0 ∨ j = 1 ∨ j = 2 by omega) with rfl | rfl | rfl
      · have HST := Lib.hid (show splice (headL X M nA nK 0) 16 (beN 4 M) = headL X M nA nK 1 from hst)
        have hix : (Instr.index 124 (.agg #[.int .i64 (M : Nat), .int .i64 ((M : Int) + 4 * (nA : Int)), .int .i64 ((M : Int) + 4 * (nA : Int) + 2 * (nK : Int))]) (.int .i64 0)).run Try.prog wr = .ok (.int .i64 (M : Int)) wr := run_index3 _ 0 _ rfl (by decide) wr
        clear hst
        go_wp2_with fail
        refine wp_region_lastY (.step 0 (.step 1 (.step 2 (.step 3 (.step 4 (.step 5 (.step 6 (.step 7 (.step 8 (.step 9 (.step 10 .nil))))))))))) 10 (by kernel_rfl) (by kernel_rfl) (by kernel_rfl) (by kernel_rfl) (by kernel_rfl) (by intro _ _ d_ _ _ h_; cases d_ <;> first | exact h_ | (dsimp +zetaDelta only at h_ ⊢; exact h_)) (fun w' => ∃ p : Wld wr [], w' = p.val) (wld_start _ _) ?_
        have hG_ := @wldC wr
        (refine z_quiet gtA (by rfl) (by rfl) (fun K_ hK_ => ?_); go_big_quiet_op; refine hK_ _ ?_; clear hK_ K_)
        (refine z_quiet gtA (by rfl) (by rfl) (fun K_ hK_ => ?_); go_big_quiet_op; refine hK_ _ ?_; clear hK_ K_)
        (refine z_quiet gtA (by rfl) (by rfl) (fun K_ hK_ => ?_); go_big_quiet_op; refine hK_ _ ?_; clear hK_ K_)
        (refine z_quiet gtA (by rfl) (by rfl) (fun K_ hK_ => ?_); go_big_quiet_op; refine hK_ _ ?_; clear hK_ K_)
        (refine z_quiet gtA (by rfl) (by rfl) (fun K_ hK_ => ?_); go_big_quiet_op; refine hK_ _ ?_; clear hK_ K_)
        (refine z_quiet gtA (by rfl) (by rfl) (fun K_ hK_ => ?_); go_big_quiet_op; refine hK_ _ ?_; clear hK_ K_)
        (refine z_quiet gtA (by rfl) (by rfl) (fun K_ hK_ => ?_); go_big_quiet_op; refine hK_ _ ?_; clear hK_ K_)
        (refine z_quiet gtA (by rfl) (by rfl) (fun K_ hK_ => ?_); go_big_quiet_op; refine hK_ _ ?_; clear hK_ K_)
        (refine z_quiet gtA (by rfl) (by rfl) (fun K_ hK_ => ?_); go_big_quiet_op; refine hK_ _ ?_; clear hK_ K_)
        (refine z_run gtA (by rfl) (by rfl) (fun K_ hK_ => ?_); have HK_ := Lib.hid hK_; clear hK_; (first | ((refine wpCopyRow _ _ 22 22 rfl 5 Try.underlying22 u8_one _ gb M c1 (bytesV (headL X M nA nK 0)) HO2.out 16 4 _ ⟨gd, 0, none⟩ 4 _ rfl rfl (bytesV (beN 4 M)) (by rw [bytesV_length, HDL.out]; rfl) (fun j v hj => by obtain ⟨p, hp, hc⟩ := HD2.out j v hj; cases hp; exact hc) (by rw [bytesV_length, HDL.out]; omega) (bytesV_one _) ?_; intro w3 ho3 hk3 hz3 hb3; rw [bytesV_splice] at ho3; have HO3 := Lib.hid ho3; have HK3 := Lib.hid (show ∀ k, k ≠ gb → w3.heap[k]? = w2.heap[k]? from hk3); have HZ3 := Lib.hid (show w3.heap.size = w2.heap.size from hz3); have HB3 := Lib.hid (show Below w.heap.size w w3 from HB2.out.trans (Below.mono hb3 (by omega))); clear ho3 hk3 hz3 hb3)) | (go_wp2_with (first | (go_at_call 60; (with_reducible refine (HPN.out _ M _ (by go_num) (by omega)).mono ?_); rintro e w2 ⟨a2, c2, rfl, ho, _, _, _, hb2, _⟩; obtain ⟨gd, rfl, _, _⟩ := owns_some ho (by decide); have HD2 := Lib.hid (has_of_owns ho); have hbr : Below wr.heap.size wr w2 := (by exact blw); have HO2 := Lib.hid (owns_below HO.out hbr (Nat.le_refl _)); have HB2 := Lib.hid (HB.out.trans (hbr.mono (by omega))); have HC2 := Lib.hid ((hbr.block _ hl2r).trans HC.out); clear ho hbr)))); refine HK_.out _ _ (wld_ofA) ?_; clear HK_)
        (refine z_last gtA (by rfl) (by rfl) (by rfl) (fun K_ hK_ => ?_); have HK_ := Lib.hid hK_; clear hK_; (first | ((refine wpCopyRow _ _ 22 22 rfl 5 Try.underlying22 u8_one _ gb M c1 (bytesV (headL X M nA nK 0)) HO2.out 16 4 _ ⟨gd, 0, none⟩ 4 _ rfl rfl (bytesV (beN 4 M)) (by rw [bytesV_length, HDL.out]; rfl) (fun j v hj => by obtain ⟨p, hp, hc⟩ := HD2.out j v hj; cases hp; exact hc) (by rw [bytesV_length, HDL.out]; omega) (bytesV_one _) ?_; intro w3 ho3 hk3 hz3 hb3; rw [bytesV_splice] at ho3; have HO3 := Lib.hid ho3; have HK3 := Lib.hid (show ∀ k, k ≠ gb → w3.heap[k]? = w2.heap[k]? from hk3); have HZ3 := Lib.hid (show w3.heap.size = w2.heap.size from hz3); have HB3 := Lib.hid (show Below w.heap.size w w3 from HB2.out.trans (Below.mono hb3 (by omega))); clear ho3 hk3 hz3 hb3)) | (go_wp2_with (first | (go_at_call 60; (with_reducible refine (HPN.out _ M _ (by go_num) (by omega)).mono ?_); rintro e w2 ⟨a2, c2, rfl, ho, _, _, _, hb2, _⟩; obtain ⟨gd, rfl, _, _⟩ := owns_some ho (by decide); have HD2 := Lib.hid (has_of_owns ho); have hbr : Below wr.heap.size wr w2 := (by exact blw); have HO2 := Lib.hid (owns_below HO.out hbr (Nat.le_refl _)); have HB2 := Lib.hid (HB.out.trans (hbr.mono (by omega))); have HC2 := Lib.hid ((hbr.block _ hl2r).trans HC.out); clear ho hbr)))); refine HK_.out _ _ ?_; clear HK_)
        refine z_nil ?_
        clear hG_
        have c3 := (HK3.out _ hgb3).trans HC2.out
        have HO3B := Lib.hid (owns_mono HO3.out (show w.heap.size ≤ _ by first | omega | simp))
        go_wp2_with fail
        go_roundw
        case rel => exact ⟨1, by decide, by first | rfl | go_num, by rw [← HST.out]; exact HO3B.out, c3.trans C2.out.symm, HB3.out⟩
        case measure => simp [Go.RowKit.intOf]
      · have HST := Lib.hid (show splice (headL X M nA nK 1) 20 (beN 4 (M + 4 * nA)) = headL X M nA nK 2 from hst)
        have hix : (Instr.index 124 (.agg #[.int .i64 (M : Nat), .int .i64 ((M : Int) + 4 * (nA : Int)), .int .i64 ((M : Int) + 4 * (nA : Int) + 2 * (nK : Int))]) (.int .i64 1)).run Try.prog wr = .ok (.int .i64 ((M : Int) + 4 * (nA : Int))) wr := run_index3 _ 1 _ rfl (by decide) wr
        clear hst
        go_wp2_with fail
        refine wp_region_lastY (.step 0 (.step 1 (.step 2 (.step 3 (.step 4 (.step 5 (.step 6 (.step 7 (.step 8 (.step 9 (.step 10 .nil))))))))))) 10 (by kernel_rfl) (by kernel_rfl) (by kernel_rfl) (by kernel_rfl) (by kernel_rfl) (by intro _ _ d_ _ _ h_; cases d_ <;> first | exact h_ | (dsimp +zetaDelta only at h_ ⊢; exact h_)) (fun w' => ∃ p : Wld wr [], w' = p.val) (wld_start _ _) ?_
        have hG_ := @wldC wr
        (refine z_quiet gtA (by rfl) (by rfl) (fun K_ hK_ => ?_); go_big_quiet_op; refine hK_ _ ?_; clear hK_ K_)
        (refine z_quiet gtA (by rfl) (by rfl) (fun K_ hK_ => ?_); go_big_quiet_op; refine hK_ _ ?_; clear hK_ K_)
        (refine z_quiet gtA (by rfl) (by rfl) (fun K_ hK_ => ?_); go_big_quiet_op; refine hK_ _ ?_; clear hK_ K_)
        (refine z_quiet gtA (by rfl) (by rfl) (fun K_ hK_ => ?_); go_big_quiet_op; refine hK_ _ ?_; clear hK_ K_)
        (refine z_quiet gtA (by rfl) (by rfl) (fun K_ hK_ => ?_); go_big_quiet_op; refine hK_ _ ?_; clear hK_ K_)
        (refine z_quiet gtA (by rfl) (by rfl) (fun K_ hK_ => ?_); go_big_quiet_op; refine hK_ _ ?_; clear hK_ K_)
        (refine z_quiet gtA (by rfl) (by rfl) (fun K_ hK_ => ?_); go_big_quiet_op; refine hK_ _ ?_; clear hK_ K_)
        (refine z_quiet gtA (by rfl) (by rfl) (fun K_ hK_ => ?_); go_big_quiet_op; refine hK_ _ ?_; clear hK_ K_)
        (refine z_quiet gtA (by rfl) (by rfl) (fun K_ hK_ => ?_); go_big_quiet_op; refine hK_ _ ?_; clear hK_ K_)
        (refine z_run gtA (by rfl) (by rfl) (fun K_ hK_ => ?_); have HK_ := Lib.hid hK_; clear hK_; (first | ((refine wpCopyRow _ _ 22 22 rfl 5 Try.underlying22 u8_one _ gb M c1 (bytesV (headL X M nA nK 1)) HO2.out 20 4 _ ⟨gd, 0, none⟩ 4 _ rfl rfl (bytesV (beN 4 (M + 4 * nA))) (by rw [bytesV_length, HDL.out]; rfl) (fun j v hj => by obtain ⟨p, hp, hc⟩ := HD2.out j v hj; cases hp; exact hc) (by rw [bytesV_length, HDL.out]; omega) (bytesV_one _) ?_; intro w3 ho3 hk3 hz3 hb3; rw [bytesV_splice] at ho3; have HO3 := Lib.hid ho3; have HK3 := Lib.hid (show ∀ k, k ≠ gb → w3.heap[k]? = w2.heap[k]? from hk3); have HZ3 := Lib.hid (show w3.heap.size = w2.heap.size from hz3); have HB3 := Lib.hid (show Below w.heap.size w w3 from HB2.out.trans (Below.mono hb3 (by omega))); clear ho3 hk3 hz3 hb3)) | (go_wp2_with (first | (go_at_call 60; (with_reducible refine (HPN.out _ (M + 4 * nA) _ (by go_num) (by omega)).mono ?_); rintro e w2 ⟨a2, c2, rfl, ho, _, _, _, hb2, _⟩; obtain ⟨gd, rfl, _, _⟩ := owns_some ho (by decide); have HD2 := Lib.hid (has_of_owns ho); have hbr : Below wr.heap.size wr w2 := (by exact blw); have HO2 := Lib.hid (owns_below HO.out hbr (Nat.le_refl _)); have HB2 := Lib.hid (HB.out.trans (hbr.mono (by omega))); have HC2 := Lib.hid ((hbr.block _ hl2r).trans HC.out); clear ho hbr)))); refine HK_.out _ _ (wld_ofA) ?_; clear HK_)
        (refine z_last gtA (by rfl) (by rfl) (by rfl) (fun K_ hK_ => ?_); have HK_ := Lib.hid hK_; clear hK_; (first | ((refine wpCopyRow _ _ 22 22 rfl 5 Try.underlying22 u8_one _ gb M c1 (bytesV (headL X M nA nK 1)) HO2.out 20 4 _ ⟨gd, 0, none⟩ 4 _ rfl rfl (bytesV (beN 4 (M + 4 * nA))) (by rw [bytesV_length, HDL.out]; rfl) (fun j v hj => by obtain ⟨p, hp, hc⟩ := HD2.out j v hj; cases hp; exact hc) (by rw [bytesV_length, HDL.out]; omega) (bytesV_one _) ?_; intro w3 ho3 hk3 hz3 hb3; rw [bytesV_splice] at ho3; have HO3 := Lib.hid ho3; have HK3 := Lib.hid (show ∀ k, k ≠ gb → w3.heap[k]? = w2.heap[k]? from hk3); have HZ3 := Lib.hid (show w3.heap.size = w2.heap.size from hz3); have HB3 := Lib.hid (show Below w.heap.size w w3 from HB2.out.trans (Below.mono hb3 (by omega))); clear ho3 hk3 hz3 hb3)) | (go_wp2_with (first | (go_at_call 60; (with_reducible refine (HPN.out _ (M + 4 * nA) _ (by go_num) (by omega)).mono ?_); rintro e w2 ⟨a2, c2, rfl, ho, _, _, _, hb2, _⟩; obtain ⟨gd, rfl, _, _⟩ := owns_some ho (by decide); have HD2 := Lib.hid (has_of_owns ho); have hbr : Below wr.heap.size wr w2 := (by exact blw); have HO2 := Lib.hid (owns_below HO.out hbr (Nat.le_refl _)); have HB2 := Lib.hid (HB.out.trans (hbr.mono (by omega))); have HC2 := Lib.hid ((hbr.block _ hl2r).trans HC.out); clear ho hbr)))); refine HK_.out _ _ ?_; clear HK_)
        refine z_nil ?_
        clear hG_
        have c3 := (HK3.out _ hgb3).trans HC2.out
        have HO3B := Lib.hid (owns_mono HO3.out (show w.heap.size ≤ _ by first | omega | simp))
        go_wp2_with fail
        go_roundw
        case rel => exact ⟨2, by decide, by first | rfl | go_num, by rw [← HST.out]; exact HO3B.out, c3.trans C2.out.symm, HB3.out⟩
        case measure => simp [Go.RowKit.intOf]
      · have HST := Lib.hid (show splice (headL X M nA nK 2) 24 (beN 4 (M + 4 * nA + 2 * nK)) = headL X M nA nK 3 from hst)
        have hix : (Instr.index 124 (.agg #[.int .i64 (M : Nat), .int .i64 ((M : Int) + 4 * (nA : Int)), .int .i64 ((M : Int) + 4 * (nA : Int) + 2 * (nK : Int))]) (.int .i64 2)).run Try.prog wr = .ok (.int .i64 ((M : Int) + 4 * (nA : Int) + 2 * (nK : Int))) wr := run_index3 _ 2 _ rfl (by decide) wr
        clear hst
        go_wp2_with fail
        refine wp_region_lastY (.step 0 (.step 1 (.step 2 (.step 3 (.step 4 (.step 5 (.step 6 (.step 7 (.step 8 (.step 9 (.step 10 .nil))))))))))) 10 (by kernel_rfl) (by kernel_rfl) (by kernel_rfl) (by kernel_rfl) (by kernel_rfl) (by intro _ _ d_ _ _ h_; cases d_ <;> first | exact h_ | (dsimp +zetaDelta only at h_ ⊢; exact h_)) (fun w' => ∃ p : Wld wr [], w' = p.val) (wld_start _ _) ?_
        have hG_ := @wldC wr
        (refine z_quiet gtA (by rfl) (by rfl) (fun K_ hK_ => ?_); go_big_quiet_op; refine hK_ _ ?_; clear hK_ K_)
        (refine z_quiet gtA (by rfl) (by rfl) (fun K_ hK_ => ?_); go_big_quiet_op; refine hK_ _ ?_; clear hK_ K_)
        (refine z_quiet gtA (by rfl) (by rfl) (fun K_ hK_ => ?_); go_big_quiet_op; refine hK_ _ ?_; clear hK_ K_)
        (refine z_quiet gtA (by rfl) (by rfl) (fun K_ hK_ => ?_); go_big_quiet_op; refine hK_ _ ?_; clear hK_ K_)
        (refine z_quiet gtA (by rfl) (by rfl) (fun K_ hK_ => ?_); go_big_quiet_op; refine hK_ _ ?_; clear hK_ K_)
        (refine z_quiet gtA (by rfl) (by rfl) (fun K_ hK_ => ?_); go_big_quiet_op; refine hK_ _ ?_; clear hK_ K_)
        (refine z_quiet gtA (by rfl) (by rfl) (fun K_ hK_ => ?_); go_big_quiet_op; refine hK_ _ ?_; clear hK_ K_)
        (refine z_quiet gtA (by rfl) (by rfl) (fun K_ hK_ => ?_); go_big_quiet_op; refine hK_ _ ?_; clear hK_ K_)
        (refine z_quiet gtA (by rfl) (by rfl) (fun K_ hK_ => ?_); go_big_quiet_op; refine hK_ _ ?_; clear hK_ K_)
        (refine z_run gtA (by rfl) (by rfl) (fun K_ hK_ => ?_); have HK_ := Lib.hid hK_; clear hK_; (first | ((refine wpCopyRow _ _ 22 22 rfl 5 Try.underlying22 u8_one _ gb M c1 (bytesV (headL X M nA nK 2)) HO2.out 24 4 _ ⟨gd, 0, none⟩ 4 _ rfl rfl (bytesV (beN 4 (M + 4 * nA + 2 * nK))) (by rw [bytesV_length, HDL.out]; rfl) (fun j v hj => by obtain ⟨p, hp, hc⟩ := HD2.out j v hj; cases hp; exact hc) (by rw [bytesV_length, HDL.out]; omega) (bytesV_one _) ?_; intro w3 ho3 hk3 hz3 hb3; rw [bytesV_splice] at ho3; have HO3 := Lib.hid ho3; have HK3 := Lib.hid (show ∀ k, k ≠ gb → w3.heap[k]? = w2.heap[k]? from hk3); have HZ3 := Lib.hid (show w3.heap.size = w2.heap.size from hz3); have HB3 := Lib.hid (show Below w.heap.size w w3 from HB2.out.trans (Below.mono hb3 (by omega))); clear ho3 hk3 hz3 hb3)) | (go_wp2_with (first | (go_at_call 60; (with_reducible refine (HPN.out _ (M + 4 * nA + 2 * nK) _ (by go_num) (by omega)).mono ?_); rintro e w2 ⟨a2, c2, rfl, ho, _, _, _, hb2, _⟩; obtain ⟨gd, rfl, _, _⟩ := owns_some ho (by decide); have HD2 := Lib.hid (has_of_owns ho); have hbr : Below wr.heap.size wr w2 := (by exact blw); have HO2 := Lib.hid (owns_below HO.out hbr (Nat.le_refl _)); have HB2 := Lib.hid (HB.out.trans (hbr.mono (by omega))); have HC2 := Lib.hid ((hbr.block _ hl2r).trans HC.out); clear ho hbr)))); refine HK_.out _ _ (wld_ofA) ?_; clear HK_)
        (refine z_last gtA (by rfl) (by rfl) (by rfl) (fun K_ hK_ => ?_); have HK_ := Lib.hid hK_; clear hK_; (first | ((refine wpCopyRow _ _ 22 22 rfl 5 Try.underlying22 u8_one _ gb M c1 (bytesV (headL X M nA nK 2)) HO2.out 24 4 _ ⟨gd, 0, none⟩ 4 _ rfl rfl (bytesV (beN 4 (M + 4 * nA + 2 * nK))) (by rw [bytesV_length, HDL.out]; rfl) (fun j v hj => by obtain ⟨p, hp, hc⟩ := HD2.out j v hj; cases hp; exact hc) (by rw [bytesV_length, HDL.out]; omega) (bytesV_one _) ?_; intro w3 ho3 hk3 hz3 hb3; rw [bytesV_splice] at ho3; have HO3 := Lib.hid ho3; have HK3 := Lib.hid (show ∀ k, k ≠ gb → w3.heap[k]? = w2.heap[k]? from hk3); have HZ3 := Lib.hid (show w3.heap.size = w2.heap.size from hz3); have HB3 := Lib.hid (show Below w.heap.size w w3 from HB2.out.trans (Below.mono hb3 (by omega))); clear ho3 hk3 hz3 hb3)) | (go_wp2_with (first | (go_at_call 60; (with_reducible refine (HPN.out _ (M + 4 * nA + 2 * nK) _ (by go_num) (by omega)).mono ?_); rintro e w2 ⟨a2, c2, rfl, ho, _, _, _, hb2, _⟩; obtain ⟨gd, rfl, _, _⟩ := owns_some ho (by decide); have HD2 := Lib.hid (has_of_owns ho); have hbr : Below wr.heap.size wr w2 := (by exact blw); have HO2 := Lib.hid (owns_below HO.out hbr (Nat.le_refl _)); have HB2 := Lib.hid (HB.out.trans (hbr.mono (by omega))); have HC2 := Lib.hid ((hbr.block _ hl2r).trans HC.out); clear ho hbr)))); refine HK_.out _ _ ?_; clear HK_)
        refine z_nil ?_
        clear hG_
        have c3 := (HK3.out _ hgb3).trans HC2.out
        have HO3B := Lib.hid (owns_mono HO3.out (show w.heap.size ≤ _ by first | omega | simp))
        go_wp2_with fail
        go_roundw
        case rel => exact ⟨3, by decide, by first | rfl | go_num, by rw [← HST.out]; exact HO3B.out, c3.trans C2.out.symm, HB3.out⟩
        case measure => simp [Go.RowKit.intOf]
    · obtain rfl : j = 3 := by omega
      have q3 := fun o => cell_of_heap HC.out o
      obtain ⟨Y, hY⟩ : ∃ Y, Y = headL X M nA nK 3 := ⟨_, rfl⟩
      rw [← hY] at HO HIB
      clear hY
      go_wp2_with fail
      go_loopw [3, 58] (fun b i wi => ∃ (j : Nat) (ab : Option Addr) (cb : Nat), j ≤ nA ∧ i = .int .i64 (j : Nat) ∧ b = .slice ab (M + 4 * j) cb ∧ wi.ownsRow w.heap.size 5 1 (.slice ab (M + 4 * j) cb) (M + 4 * j) (bytesV (Y ++ longs (acts.take j))) ∧ wi.heap[w.heap.size]? = w1.heap[w.heap.size]? ∧ Below w.heap.size w wi) (fun _ i _ => nA - (Go.RowKit.intOf i).toNat)
      case atStart => exact ⟨0, _, _, Nat.zero_le _, rfl, rfl, by have := HO.out; simpa [longs] using this, HC.out.trans C2.out.symm, HB.out⟩
      case round =>
        obtain ⟨j, ab, cb, hj, rfl, rfl, ho, hc, hb⟩ := hrel
        rename World => wa
        have HOwa := Lib.hid ho
        have HCwa := Lib.hid (hc.trans C2.out)
        have HBwa := Lib.hid hb
        have hzwa := hb.size
        clear ho hc hb
        by_cases hlt : j < nA
        · obtain ⟨bI, oI, hbI, hblI, hcI⟩ := (HHA.out.below HBwa.out).get (by rw [show (u32V acts).length = acts.length by simp [u32V], HNA.out]; omega)
          have e1 := hcI j _ (u32V_get acts j (by rw [HNA.out]; exact hlt))
          have hx : acts.getD j 0 ≤ 4294967295 := H32.out _ (by rw [List.getD_eq_getElem?_getD, List.getElem?_eq_getElem (by rw [HNA.out]; exact hlt)]; exact List.getElem_mem _)
          have HVS := Lib.hid (longs_snoc acts j (by rw [HNA.out]; exact hlt))
          generalize acts.getD j 0 = x at *
          have hc1 : IntKind.i64.wrap ((x : Nat) : Int) = (x : Int) := IntWalk.i64_in _ (by omega)
          have HP := Lib.hid (put_zz w.heap.size ab (M + 4 * j) cb x 4 (M + 4 * (j + 1)) (x : Int) 4 rfl rfl (by omega) _ wa HOwa.out hzwa (by omega) (by omega) (by decide))
          subst hbI
          clear hcI
          go_wp2_with (first | (go_at_call 60; (with_reducible refine HP.out.mono ?_); rintro e w6 ⟨a6, c6, rfl, ho6, _, _, _, hb6, hk6⟩; have HO6 := Lib.hid ho6; have HB6 := Lib.hid (HBwa.out.trans hb6); have HK6 := Lib.hid hk6; clear ho6 hb6 hk6))
          refine ⟨?_, ?measure⟩
          iterate 11 (apply Exists.intro)
          refine ⟨?_, ?_⟩
          rotate_left
          · rfl
          case measure => simp [Go.RowKit.intOf]; omega
          exact ⟨j + 1, a6, c6, hlt, by go_num, rfl, by rw [HVS.out, ← List.append_assoc]; exact HO6.out, (HK6.out.2 _ _ _ _ HCwa.out (by decide)).trans (HCwa.out.trans C2.out.symm), HB6.out⟩
        · obtain rfl : nA = j := by omega
          have howa := HOwa.out
          rw [List.take_of_length_le (by rw [HNA.out]; exact Nat.le_refl _)] at howa
          have q3a := fun o => cell_of_heap HCwa.out o
          have l3a := (Array.getElem?_eq_some_iff.1 HCwa.out).1
          have HOX := Lib.hid howa
          clear howa
          go_wp2_with fail
          go_loopw [3, 70] (fun b i wi => ∃ (j : Nat) (ab : Option Addr) (cb : Nat), j ≤ nK ∧ i = .int .i64 (j : Nat) ∧ b = .slice ab (M + 4 * nA + 2 * j) cb ∧ wi.ownsRow w.heap.size 5 1 (.slice ab (M + 4 * nA + 2 * j) cb) (M + 4 * nA + 2 * j) (bytesV (Y ++ longs acts ++ vals16 (comps.take j))) ∧ wi.heap[w.heap.size]? = w1.heap[w.heap.size]? ∧ Below w.heap.size w wi) (fun _ i _ => nK - (Go.RowKit.intOf i).toNat)
          case atStart => exact ⟨0, _, _, Nat.zero_le _, rfl, rfl, by have := HOX.out; simpa [vals16] using this, HCwa.out.trans C2.out.symm, HBwa.out⟩
          case round =>
            obtain ⟨j, ab, cb, hj, rfl, rfl, ho, hc, hb⟩ := hrel
            rename World => wk
            have HOwk := Lib.hid ho
            have HCwk := Lib.hid (hc.trans C2.out)
            have HBwk := Lib.hid hb
            have hzwk := hb.size
            clear ho hc hb
            by_cases hlt : j < nK
            · obtain ⟨bI, oI, hbI, hblI, hcI⟩ := (HHK.out.below HBwk.out).get (by rw [u16V_length, HNK.out]; omega)
              have e1 := hcI j _ (u16V_get comps j (by rw [HNK.out]; exact hlt))
              have hx : comps.getD j 0 ≤ 65535 := H16.out _ (by rw [List.getD_eq_getElem?_getD, List.getElem?_eq_getElem (by rw [HNK.out]; exact hlt)]; exact List.getElem_mem _)
              have HVS := Lib.hid (vals16_snoc comps j (by rw [HNK.out]; exact hlt))
              generalize comps.getD j 0 = x at *
              have hc1 : IntKind.i64.wrap ((x : Nat) : Int) = (x : Int) := IntWalk.i64_in _ (by omega)
              have HP := Lib.hid (put_zz w.heap.size ab (M + 4 * nA + 2 * j) cb x 2 (M + 4 * nA + 2 * (j + 1)) (x : Int) 2 rfl rfl (by omega) _ wk HOwk.out hzwk (by omega) (by omega) (by decide))
              subst hbI
              clear hcI
              go_wp2_with (first | (go_at_call 60; (with_reducible refine HP.out.mono ?_); rintro e w6 ⟨a6, c6, rfl, ho6, _, _, _, hb6, hk6⟩; have HO6 := Lib.hid ho6; have HB6 := Lib.hid (HBwk.out.trans hb6); have HK6 := Lib.hid hk6; clear ho6 hb6 hk6))
              refine ⟨?_, ?measure⟩
              iterate 11 (apply Exists.intro)
              refine ⟨?_, ?_⟩
              rotate_left
              · rfl
              case measure => simp [Go.RowKit.intOf]; omega
              exact ⟨j + 1, a6, c6, hlt, by go_num, rfl, by rw [HVS.out, ← List.append_assoc]; exact HO6.out, (HK6.out.2 _ _ _ _ HCwk.out (by decide)).trans (HCwk.out.trans C2.out.symm), HB6.out⟩
            · obtain rfl : nK = j := by omega
              have howk := HOwk.out
              rw [List.take_of_length_le (by rw [HNK.out]; exact Nat.le_refl _)] at howk
              have q3k := fun o => cell_of_heap HCwk.out o
              have l3k := (Array.getElem?_eq_some_iff.1 HCwk.out).1
              have HOY := Lib.hid howk
              clear howk
              go_wp2_with fail
              go_loopw [3, 82] (fun b i wi => ∃ (j : Nat) (ab : Option Addr) (cb : Nat), j ≤ nL ∧ i = .int .i64 (j : Nat) ∧ b = .slice ab (M + 4 * nA + 2 * nK + 2 * j) cb ∧ wi.ownsRow w.heap.size 5 1 (.slice ab (M + 4 * nA + 2 * nK + 2 * j) cb) (M + 4 * nA + 2 * nK + 2 * j) (bytesV (Y ++ longs acts ++ vals16 comps ++ vals16 (ligs.take j))) ∧ wi.heap[w.heap.size]? = w1.heap[w.heap.size]? ∧ Below w.heap.size w wi) (fun _ i _ => nL - (Go.RowKit.intOf i).toNat)
              case atStart => exact ⟨0, _, _, Nat.zero_le _, rfl, rfl, by have := HOY.out; simpa [vals16] using this, HCwk.out.trans C2.out.symm, HBwk.out⟩
              case round =>
                obtain ⟨j, ab, cb, hj, rfl, rfl, ho, hc, hb⟩ := hrel
                rename World => wl
                have HOwl := Lib.hid ho
                have HCwl := Lib.hid (hc.trans C2.out)
                have HBwl := Lib.hid hb
                have hzwl := hb.size
                clear ho hc hb
                by_cases hlt : j < nL
                · obtain ⟨bI, oI, hbI, hblI, hcI⟩ := (HHS.out.below HBwl.out).get (by rw [u16V_length, HNL.out]; omega)
                  have e1 := hcI j _ (u16V_get ligs j (by rw [HNL.out]; exact hlt))
                  have hx : ligs.getD j 0 ≤ 65535 := H17.out _ (by rw [List.getD_eq_getElem?_getD, List.getElem?_eq_getElem (by rw [HNL.out]; exact hlt)]; exact List.getElem_mem _)
                  have HVS := Lib.hid (vals16_snoc ligs j (by rw [HNL.out]; exact hlt))
                  generalize ligs.getD j 0 = x at *
                  have hc1 : IntKind.i64.wrap ((x : Nat) : Int) = (x : Int) := IntWalk.i64_in _ (by omega)
                  have HP := Lib.hid (put_zz w.heap.size ab (M + 4 * nA + 2 * nK + 2 * j) cb x 2 (M + 4 * nA + 2 * nK + 2 * (j + 1)) (x : Int) 2 rfl rfl (by omega) _ wl HOwl.out hzwl (by omega) (by omega) (by decide))
                  subst hbI
                  clear hcI
                  go_wp2_with (first | (go_at_call 60; (with_reducible refine HP.out.mono ?_); rintro e w6 ⟨a6, c6, rfl, ho6, _, _, _, hb6, hk6⟩; have HO6 := Lib.hid ho6; have HB6 := Lib.hid (HBwl.out.trans hb6); have HK6 := Lib.hid hk6; clear ho6 hb6 hk6))
                  refine ⟨?_, ?measure⟩
                  iterate 11 (apply Exists.intro)
                  refine ⟨?_, ?_⟩
                  rotate_left
                  · rfl
                  case measure => simp [Go.RowKit.intOf]; omega
                  exact ⟨j + 1, a6, c6, hlt, by go_num, rfl, by rw [HVS.out, ← List.append_assoc]; exact HO6.out, (HK6.out.2 _ _ _ _ HCwl.out (by decide)).trans (HCwl.out.trans C2.out.symm), HB6.out⟩
                · obtain rfl : nL = j := by omega
                  have howl := HOwl.out
                  rw [List.take_of_length_le (by rw [HNL.out]; exact Nat.le_refl _)] at howl
                  rw [← HIB.out] at howl
                  obtain ⟨_, _, e3, kb1, kb2, kb3⟩ := owns_slice howl
                  cases e3
                  have HOF := Lib.hid howl
                  clear howl
                  go_wp2_with fail
                  go_ret
                  rw [HIL.out]
                  exact ⟨ab, cb, rfl, HOF.out, kb1, kb2, kb3, HBwl.out⟩
end Go.Proofs.Ytlgkikmmpnnnfaa
end
