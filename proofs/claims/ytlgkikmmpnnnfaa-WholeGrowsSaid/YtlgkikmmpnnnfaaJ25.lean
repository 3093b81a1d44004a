/- Joined from: IWrite. -/
import Derived.Test.YtlgkikmmpnnnfaaJ01
import Derived.Test.YtlgkikmmpnnnfaaJ24
import Derived.Test.YtlgkikmmpnnnfaaJ17
section

/- The law's Write of layer 18: a plan's bytes. Conditions: a plan in memory; sizes. -/
namespace Go.Proofs.Ytlgkikmmpnnnfaa
open Go.RowKit Go.Lib

set_option maxRecDepth 100000 in
set_option maxHeartbeats 6400000 in
theorem write18_any (p : PlanL) (aC aR aE : Option Addr) (rv : List Value) (cC cR cE : Nat) (aL : Option Addr) (nL cL : Nat) (list : List Nat) (w : World) (h : PlanHas w p aC aR rv aE) (hC : p.cls.length ≤ 1000) (hR : p.rows.length ≤ 1000) (hE : p.ents.length ≤ 1000) (hwf : ∀ e ∈ p.ents, wfI e.1 ∧ wfI e.2.1 ∧ wfI e.2.2.1 ∧ wfI e.2.2.2)
    (hS : Has w aL (u16V list)) (hnL : list.length = nL) (hn1 : nL ≤ 1000) (h16 : ∀ x ∈ list, x ≤ 65535) :
    Calls Try.prog 33 #[.agg #[.slice aC p.cls.length cC, .slice aR p.rows.length cR, .slice aE p.ents.length cE, .int .u8 (p.wide.toNat : Nat), .slice aL nL cL]] w fun e w' => ∃ a' c', e = .returned (.slice a' (insB p list).length c') ∧ w'.ownsRow w.heap.size 5 1 (.slice a' (insB p list).length c') (insB p list).length (bytesV (insB p list)) ∧ (insB p list).length ≤ c' ∧ c' ≤ maxLen ∧ (a' = none → c' = 0) ∧ Below w.heap.size w w' := by
  have hAC := allocC
  have hAF := allocF
  have HW := Lib.hid (fun W (hW : Below w.heap.size w W) => write_any p 2 4 2 4 rfl rfl aC aR aE rv cC cR cE W (h.below hW) hC hR hE (by decide) (by decide) hwf)
  have hlen := planL2 (p := p)
  have hn4 : p.n ≤ 11 := by unfold PlanL.n; omega
  have hrn : p.rows.length * p.n ≤ 11000 := Nat.le_trans (Nat.mul_le_mul hR hn4) (by decide)
  have hIB : insB p list = splice (planB p 2 4) 16 (beN 4 (planB p 2 4).length) ++ vals16 list := rfl
  obtain ⟨M, hM⟩ : ∃ M, M = (planB p 2 4).length := ⟨_, rfl⟩
  obtain ⟨X, hX⟩ : ∃ X, X = planB p 2 4 := ⟨_, rfl⟩
  rw [← hX] at hM hIB
  rw [← hX, ← hM] at HW
  rw [← hM] at hIB
  have hM1 : 26 ≤ M ∧ M ≤ 100000 := by rw [hM, hX]; omega
  have HX := Lib.hid hM
  have HIB := Lib.hid hIB
  have hIL : (insB p list).length = M + 2 * nL := by rw [hIB, List.length_append, length_splice _ 16 _ (by rw [beN_length, ← hM]; omega), ← hM, vals16_length, hnL]
  have HIL := Lib.hid hIL
  have HS := Lib.hid hS
  have HNL := Lib.hid hnL
  have H16 := Lib.hid h16
  have HPN := Lib.hid (fun W => put_zz W.heap.size none 0 0 M 4 4 (M : Int) 4 rfl rfl rfl [] W (World.ownsRow_nil _ _ _ _) (Nat.le_refl _) (by omega) (by omega) (by omega))
  have HDL := Lib.hid (show (beN 4 M).length = 4 from beN_length 4 M)
  clear h hwf hS hnL h16 hIB hIL hM hX hlen hrn hn4
  go_enter Try.func33, Try.ntmps33
  go_wp2_with (go_at_call 59; (with_reducible refine (HW.out _ (by exact blw)).mono ?_); rintro e w1 ⟨a1, c1, rfl, ho1, k1, k2, k3, hb1⟩; have HO1 := Lib.hid ho1; have h1z := hb1.size; have c2 := (hb1.block w.heap.size (by simp)).trans (show (w.alloc (.cells #[.slice aC p.cls.length cC, .slice aR p.rows.length cR, .slice aE p.ents.length cE, .int .u8 (p.wide.toNat : Nat), .slice aL nL cL] 73)).heap[w.heap.size]? = some (.cells #[.slice aC p.cls.length cC, .slice aR p.rows.length cR, .slice aE p.ents.length cE, .int .u8 (p.wide.toNat : Nat), .slice aL nL cL] 73 (0, 0)) from by rw [heap_push, if_pos rfl]); have HB1 := Lib.hid (show Below w.heap.size w w1 from by exact blw); clear ho1 hb1)
  obtain ⟨gb, rfl, hgb1, hgb2⟩ := owns_some HO1.out (by omega)
  have C2 := Lib.hid c2
  simp only [World.size_alloc] at h1z hgb1
  have hgb3 : w.heap.size ≠ gb := by omega
  have hl2 : w.heap.size < w1.heap.size := by omega
  clear c2
  refine wp_region_lastY (.step 0 (.step 1 (.step 2 (.step 3 (.step 4 (.step 5 .nil)))))) 5 (by kernel_rfl) (by kernel_rfl) (by kernel_rfl) (by kernel_rfl) (by kernel_rfl) (by intro _ _ d_ _ _ h_; cases d_ <;> first | exact h_ | (dsimp +zetaDelta only at h_ ⊢; exact h_)) (fun w' => ∃ p : Wld w1 [], w' = p.val) (wld_start _ _) ?_
  have hG_ := @wldC w1
  (refine z_quiet gtA (by rfl) (by rfl) (fun K_ hK_ => ?_); go_big_quiet_op; refine hK_ _ ?_; clear hK_ K_)
  (refine z_quiet gtA (by rfl) (by rfl) (fun K_ hK_ => ?_); go_big_quiet_op; refine hK_ _ ?_; clear hK_ K_)
  (refine z_quiet gtA (by rfl) (by rfl) (fun K_ hK_ => ?_); go_big_quiet_op; refine hK_ _ ?_; clear hK_ K_)
  (refine z_quiet gtA (by rfl) (by rfl) (fun K_ hK_ => ?_); go_big_quiet_op; refine hK_ _ ?_; clear hK_ K_)
  (refine z_run gtA (by rfl) (by rfl) (fun K_ hK_ => ?_); have HK_ := Lib.hid hK_; clear hK_; (first | ((refine wpCopyRow _ _ 22 22 rfl 5 Try.underlying22 u8_one _ gb M c1 (bytesV X) HO2.out 16 4 _ ⟨gd, 0, none⟩ 4 _ rfl rfl (bytesV (beN 4 M)) (by rw [bytesV_length, HDL.out]; rfl) (fun j v hj => by obtain ⟨p, hp, hc⟩ := HD2.out j v hj; cases hp; exact hc) (by rw [bytesV_length, HDL.out]; omega) (bytesV_one _) ?_; intro w3 ho3 hk3 hz3 hb3; rw [bytesV_splice] at ho3; have HO3 := Lib.hid ho3; have HK3 := Lib.hid (show ∀ k, k ≠ gb → w3.heap[k]? = w2.heap[k]? from hk3); have HZ3 := Lib.hid (show w3.heap.size = w2.heap.size from hz3); have HB3 := Lib.hid (show Below w.heap.size w w3 from HB2.out.trans (Below.mono hb3 (by omega))); clear ho3 hk3 hz3 hb3)) | (go_wp2_with (first | (go_at_call 60; (with_reducible refine (HPN.out _).mono ?_); rintro e w2 ⟨a2, c2, rfl, ho, _, _, _, hb2, _⟩; obtain ⟨gd, rfl, _, _⟩ := owns_some ho (by decide); have HD2 := Lib.hid (has_of_owns ho); have hbr : Below w1.heap.size w1 w2 := (by exact blw); have HO2 := Lib.hid (owns_below HO1.out hbr (Nat.le_refl _)); have HB2 := Lib.hid (HB1.out.trans (hbr.mono (by omega))); have HC2 := Lib.hid ((hbr.block _ hl2).trans C2.out); clear ho hbr)))); refine HK_.out _ _ (wld_ofA) ?_; clear HK_)
  (refine z_last gtA (by rfl) (by rfl) (by rfl) (fun K_ hK_ => ?_); have HK_ := Lib.hid hK_; clear hK_; (first | ((refine wpCopyRow _ _ 22 22 rfl 5 Try.underlying22 u8_one _ gb M c1 (bytesV X) HO2.out 16 4 _ ⟨gd, 0, none⟩ 4 _ rfl rfl (bytesV (beN 4 M)) (by rw [bytesV_length, HDL.out]; rfl) (fun j v hj => by obtain ⟨p, hp, hc⟩ := HD2.out j v hj; cases hp; exact hc) (by rw [bytesV_length, HDL.out]; omega) (bytesV_one _) ?_; intro w3 ho3 hk3 hz3 hb3; rw [bytesV_splice] at ho3; have HO3 := Lib.hid ho3; have HK3 := Lib.hid (show ∀ k, k ≠ gb → w3.heap[k]? = w2.heap[k]? from hk3); have HZ3 := Lib.hid (show w3.heap.size = w2.heap.size from hz3); have HB3 := Lib.hid (show Below w.heap.size w w3 from HB2.out.trans (Below.mono hb3 (by omega))); clear ho3 hk3 hz3 hb3)) | (go_wp2_with (first | (go_at_call 60; (with_reducible refine (HPN.out _).mono ?_); rintro e w2 ⟨a2, c2, rfl, ho, _, _, _, hb2, _⟩; obtain ⟨gd, rfl, _, _⟩ := owns_some ho (by decide); have HD2 := Lib.hid (has_of_owns ho); have hbr : Below w1.heap.size w1 w2 := (by exact blw); have HO2 := Lib.hid (owns_below HO1.out hbr (Nat.le_refl _)); have HB2 := Lib.hid (HB1.out.trans (hbr.mono (by omega))); have HC2 := Lib.hid ((hbr.block _ hl2).trans C2.out); clear ho hbr)))); refine HK_.out _ _ ?_; clear HK_)
  refine z_nil ?_
  clear hG_
  have c3 := (HK3.out _ hgb3).trans HC2.out
  have q3 := fun o => cell_of_heap c3 o
  have l3 := (Array.getElem?_eq_some_iff.1 c3).1
  have HO3B := Lib.hid (owns_mono HO3.out (show w.heap.size ≤ _ by simp))
  have hz3 := HB3.out.size
  clear c3
  go_wp2_with fail
  obtain ⟨Y, hY⟩ : ∃ Y, Y = splice X 16 (beN 4 M) := ⟨_, rfl⟩
  rw [← hY] at HO3B HIB
  clear hY
  go_loopw [3, 18] (fun b i wr => ∃ (j : Nat) (ab : Option Addr) (cb : Nat), j ≤ nL ∧ i = .int .i64 (j : Nat) ∧ b = .slice ab (M + 2 * j) cb ∧ wr.ownsRow w.heap.size 5 1 (.slice ab (M + 2 * j) cb) (M + 2 * j) (bytesV (Y ++ vals16 (list.take j))) ∧ Below w.heap.size w wr) (fun _ i _ => nL - (Go.RowKit.intOf i).toNat)
  case atStart => exact ⟨0, _, _, Nat.zero_le _, rfl, rfl, by have := HO3B.out; simpa [vals16] using this, HB3.out⟩
  case round =>
    obtain ⟨j, ab, cb, hj, rfl, rfl, ho, hb⟩ := hrel
    rename World => wr
    have HO := Lib.hid ho
    have HB := Lib.hid hb
    have hzr := hb.size
    clear ho hb
    by_cases hlt : j < nL
    · obtain ⟨bI, oI, hbI, hblI, hcI⟩ := (HS.out.below HB.out).get (by rw [u16V_length, HNL.out]; omega)
      have e1 := hcI j _ (u16V_get list j (by rw [HNL.out]; exact hlt))
      have hx : list.getD j 0 ≤ 65535 := H16.out _ (by rw [List.getD_eq_getElem?_getD, List.getElem?_eq_getElem (by rw [HNL.out]; exact hlt)]; exact List.getElem_mem _)
      have HVS := Lib.hid (vals16_snoc list j (by rw [HNL.out]; exact hlt))
      generalize list.getD j 0 = x at *
      have hc1 : IntKind.i64.wrap ((x : Nat) : Int) = (x : Int) := IntWalk.i64_in _ (by omega)
      have HP := Lib.hid (put_zz w.heap.size ab (M + 2 * j) cb x 2 (M + 2 * (j + 1)) (x : Int) 2 rfl rfl (by omega) _ wr HO.out hzr (by omega) (by omega) (by decide))
      subst hbI
      clear hcI
      go_wp2_with (first | (go_at_call 60; (with_reducible refine HP.out.mono ?_); rintro e w6 ⟨a6, c6, rfl, ho6, _, _, _, hb6, _⟩; have HO6 := Lib.hid ho6; have HB6 := Lib.hid (HB.out.trans hb6); clear ho6 hb6))
      go_roundw
      case rel => exact ⟨j + 1, a6, c6, hlt, by go_num, rfl, by rw [HVS.out, ← List.append_assoc]; exact HO6.out, HB6.out⟩
      case measure => simp [Go.RowKit.intOf]; omega
    · obtain rfl : nL = j := by omega
      have ho := HO.out
      rw [List.take_of_length_le (by rw [HNL.out]; exact Nat.le_refl _), ← HIB.out] at ho
      obtain ⟨_, _, e3, kb1, kb2, kb3⟩ := owns_slice ho
      cases e3
      have HOF := Lib.hid ho
      clear ho
      go_wp2_with fail
      go_ret
      rw [HIL.out]
      exact ⟨ab, cb, rfl, HOF.out, kb1, kb2, kb3, HB.out⟩
end Go.Proofs.Ytlgkikmmpnnnfaa
end
