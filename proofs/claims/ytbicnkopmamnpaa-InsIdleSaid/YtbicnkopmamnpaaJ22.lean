/- Joined from: IWrite ISpk IKeep IRef. -/
import Derived.Test.YtbicnkopmamnpaaJ01
import Derived.Test.YtbicnkopmamnpaaJ21
import Derived.Test.YtbicnkopmamnpaaJ18
section

/- The law's Write of layer 18: a plan's bytes. Conditions: a plan in memory; sizes. -/
namespace Go.Proofs.Ytbicnkopmamnpaa
open Go.RowKit Go.Lib

set_option maxRecDepth 100000 in
set_option maxHeartbeats 6400000 in
theorem write18_any (p : PlanL) (aC aR aE : Option Addr) (rv : List Value) (cC cR cE : Nat) (aL : Option Addr) (nL cL : Nat) (list : List Nat) (w : World) (h : PlanHas w p aC aR rv aE) (hC : p.cls.length ≤ 1000) (hR : p.rows.length ≤ 1000) (hE : p.ents.length ≤ 1000) (hwf : ∀ e ∈ p.ents, wfI e.1 ∧ wfI e.2.1 ∧ wfI e.2.2.1 ∧ wfI e.2.2.2)
    (hS : Has w aL (u16V list)) (hnL : list.length = nL) (hn1 : nL ≤ 1000) (h16 : ∀ x ∈ list, x ≤ 65535) :
    Calls Try.prog 19 #[.agg #[.slice aC p.cls.length cC, .slice aR p.rows.length cR, .slice aE p.ents.length cE, .int .u8 (p.wide.toNat : Nat), .slice aL nL cL]] w fun e w' => ∃ a' c', e = .returned (.slice a' (insB p list).length c') ∧ w'.ownsRow w.heap.size 5 1 (.slice a' (insB p list).length c') (insB p list).length (bytesV (insB p list)) ∧ (insB p list).length ≤ c' ∧ c' ≤ maxLen ∧ (a' = none → c' = 0) ∧ Below w.heap.size w w' := by
  have hAC := allocC
  have hAF := allocF
  have HW := Lib.hid (fun W (hW : Below w.heap.size w W) => write_any p 2 4 2 4 rfl rfl aC aR aE rv cC cR cE W (h.below hW) hC hR hE (by decide) (by decide) hwf)
  have hlen := planL2 (p := p)
  have hn4 : p.n ≤ 11 := by unfold PlanL.n; omega
  have hrn : p.rows.length * p.n ≤ 11000 := Nat.le_trans (Nat.mul_le_mul hR hn4) (by decide)
  have hIB : insB p list = splice (planB p 2 4) 16 (beN 4 (planB p 2 4).length) ++ vals16 list := rfl
  obtain ⟨M, hM⟩ : ∃ M, M = (planB p 2 4).length := ⟨_, rfl⟩
  obtain ⟨X, hX⟩ : ∃ X, X = planB p 2 4 := ⟨_, rfl⟩
  rw [← hX] at hM hIB
  rw [← hX, ← hM] at HW
  rw [← hM] at hIB
  have hM1 : 26 ≤ M ∧ M ≤ 100000 := by rw [hM, hX]; omega
  have HX := Lib.hid hM
  have HIB := Lib.hid hIB
  have hIL : (insB p list).length = M + 2 * nL := by rw [hIB, List.length_append, length_splice _ 16 _ (by rw [beN_length, ← hM]; omega), ← hM, vals16_length, hnL]
  have HIL := Lib.hid hIL
  have HS := Lib.hid hS
  have HNL := Lib.hid hnL
  have H16 := Lib.hid h16
  have HPN := Lib.hid (fun W => put_zz W.heap.size none 0 0 M 4 4 (M : Int) 4 rfl rfl rfl [] W (World.ownsRow_nil _ _ _ _) (Nat.le_refl _) (by omega) (by omega) (by omega))
  have HDL := Lib.hid (show (beN 4 M).length = 4 from beN_length 4 M)
  clear h hwf hS hnL h16 hIB hIL hM hX hlen hrn hn4
  go_enter Try.func19, Try.ntmps19
  go_wp2_with (go_at_call 66; (with_reducible refine (HW.out _ (by exact blw)).mono ?_); rintro e w1 ⟨a1, c1, rfl, ho1, k1, k2, k3, hb1⟩; have HO1 := Lib.hid ho1; have h1z := hb1.size; have c2 := (hb1.block w.heap.size (by simp)).trans (show (w.alloc (.cells #[.slice aC p.cls.length cC, .slice aR p.rows.length cR, .slice aE p.ents.length cE, .int .u8 (p.wide.toNat : Nat), .slice aL nL cL] 29)).heap[w.heap.size]? = some (.cells #[.slice aC p.cls.length cC, .slice aR p.rows.length cR, .slice aE p.ents.length cE, .int .u8 (p.wide.toNat : Nat), .slice aL nL cL] 29 (0, 0)) from by rw [heap_push, if_pos rfl]); have HB1 := Lib.hid (show Below w.heap.size w w1 from by exact blw); clear ho1 hb1)
  obtain ⟨gb, rfl, hgb1, hgb2⟩ := owns_some HO1.out (by omega)
  have C2 := Lib.hid c2
  simp only [World.size_alloc] at h1z hgb1
  have hgb3 : w.heap.size ≠ gb := by omega
  have hl2 : w.heap.size < w1.heap.size := by omega
  clear c2
  refine wp_region_lastY (.step 0 (.step 1 (.step 2 (.step 3 (.step 4 (.step 5 .nil)))))) 5 (by kernel_rfl) (by kernel_rfl) (by kernel_rfl) (by kernel_rfl) (by kernel_rfl) (by intro _ _ d_ _ _ h_; cases d_ <;> first | exact h_ | (dsimp +zetaDelta only at h_ ⊢; exact h_)) (fun w' => ∃ p : Wld w1 [], w' = p.val) (wld_start _ _) ?_
  have hG_ := @wldC w1
  (refine z_quiet gtA (by rfl) (by rfl) (fun K_ hK_ => ?_); go_big_quiet_op; refine hK_ _ ?_; clear hK_ K_)
  (refine z_quiet gtA (by rfl) (by rfl) (fun K_ hK_ => ?_); go_big_quiet_op; refine hK_ _ ?_; clear hK_ K_)
  (refine z_quiet gtA (by rfl) (by rfl) (fun K_ hK_ => ?_); go_big_quiet_op; refine hK_ _ ?_; clear hK_ K_)
  (refine z_quiet gtA (by rfl) (by rfl) (fun K_ hK_ => ?_); go_big_quiet_op; refine hK_ _ ?_; clear hK_ K_)
  (refine z_run gtA (by rfl) (by rfl) (fun K_ hK_ => ?_); have HK_ := Lib.hid hK_; clear hK_; (first | ((refine wpCopyRow _ _ 22 22 rfl 5 Try.underlying22 u8_one _ gb M c1 (bytesV X) HO2.out 16 4 _ ⟨gd, 0, none⟩ 4 _ rfl rfl (bytesV (beN 4 M)) (by rw [bytesV_length, HDL.out]; rfl) (fun j v hj => by obtain ⟨p, hp, hc⟩ := HD2.out j v hj; cases hp; exact hc) (by rw [bytesV_length, HDL.out]; omega) (bytesV_one _) ?_; intro w3 ho3 hk3 hz3 hb3; rw [bytesV_splice] at ho3; have HO3 := Lib.hid ho3; have HK3 := Lib.hid (show ∀ k, k ≠ gb → w3.heap[k]? = w2.heap[k]? from hk3); have HZ3 := Lib.hid (show w3.heap.size = w2.heap.size from hz3); have HB3 := Lib.hid (show Below w.heap.size w w3 from HB2.out.trans (Below.mono hb3 (by omega))); clear ho3 hk3 hz3 hb3)) | (go_wp2_with (first | (go_at_call 67; (with_reducible refine (HPN.out _).mono ?_); rintro e w2 ⟨a2, c2, rfl, ho, _, _, _, hb2, _⟩; obtain ⟨gd, rfl, _, _⟩ := owns_some ho (by decide); have HD2 := Lib.hid (has_of_owns ho); have hbr : Below w1.heap.size w1 w2 := (by exact blw); have HO2 := Lib.hid (owns_below HO1.out hbr (Nat.le_refl _)); have HB2 := Lib.hid (HB1.out.trans (hbr.mono (by omega))); have HC2 := Lib.hid ((hbr.block _ hl2).trans C2.out); clear ho hbr)))); refine HK_.out _ _ (wld_ofA) ?_; clear HK_)
  (refine z_last gtA (by rfl) (by rfl) (by rfl) (fun K_ hK_ => ?_); have HK_ := Lib.hid hK_; clear hK_; (first | ((refine wpCopyRow _ _ 22 22 rfl 5 Try.underlying22 u8_one _ gb M c1 (bytesV X) HO2.out 16 4 _ ⟨gd, 0, none⟩ 4 _ rfl rfl (bytesV (beN 4 M)) (by rw [bytesV_length, HDL.out]; rfl) (fun j v hj => by obtain ⟨p, hp, hc⟩ := HD2.out j v hj; cases hp; exact hc) (by rw [bytesV_length, HDL.out]; omega) (bytesV_one _) ?_; intro w3 ho3 hk3 hz3 hb3; rw [bytesV_splice] at ho3; have HO3 := Lib.hid ho3; have HK3 := Lib.hid (show ∀ k, k ≠ gb → w3.heap[k]? = w2.heap[k]? from hk3); have HZ3 := Lib.hid (show w3.heap.size = w2.heap.size from hz3); have HB3 := Lib.hid (show Below w.heap.size w w3 from HB2.out.trans (Below.mono hb3 (by omega))); clear ho3 hk3 hz3 hb3)) | (go_wp2_with (first | (go_at_call 67; (with_reducible refine (HPN.out _).mono ?_); rintro e w2 ⟨a2, c2, rfl, ho, _, _, _, hb2, _⟩; obtain ⟨gd, rfl, _, _⟩ := owns_some ho (by decide); have HD2 := Lib.hid (has_of_owns ho); have hbr : Below w1.heap.size w1 w2 := (by exact blw); have HO2 := Lib.hid (owns_below HO1.out hbr (Nat.le_refl _)); have HB2 := Lib.hid (HB1.out.trans (hbr.mono (by omega))); have HC2 := Lib.hid ((hbr.block _ hl2).trans C2.out); clear ho hbr)))); refine HK_.out _ _ ?_; clear HK_)
  refine z_nil ?_
  clear hG_
  have c3 := (HK3.out _ hgb3).trans HC2.out
  have q3 := fun o => cell_of_heap c3 o
  have l3 := (Array.getElem?_eq_some_iff.1 c3).1
  have HO3B := Lib.hid (owns_mono HO3.out (show w.heap.size ≤ _ by simp))
  have hz3 := HB3.out.size
  clear c3
  go_wp2_with fail
  obtain ⟨Y, hY⟩ : ∃ Y, Y = splice X 16 (beN 4 M) := ⟨_, rfl⟩
  rw [← hY] at HO3B HIB
  clear hY
  go_loopw [3, 18] (fun b i wr => ∃ (j : Nat) (ab : Option Addr) (cb : Nat), j ≤ nL ∧ i = .int .i64 (j : Nat) ∧ b = .slice ab (M + 2 * j) cb ∧ wr.ownsRow w.heap.size 5 1 (.slice ab (M + 2 * j) cb) (M + 2 * j) (bytesV (Y ++ vals16 (list.take j))) ∧ Below w.heap.size w wr) (fun _ i _ => nL - (Go.RowKit.intOf i).toNat)
  case atStart => exact ⟨0, _, _, Nat.zero_le _, rfl, rfl, by have := HO3B.out; simpa [vals16] using this, HB3.out⟩
  case round =>
    obtain ⟨j, ab, cb, hj, rfl, rfl, ho, hb⟩ := hrel
    rename World => wr
    have HO := Lib.hid ho
    have HB := Lib.hid hb
    have hzr := hb.size
    clear ho hb
    by_cases hlt : j < nL
    · obtain ⟨bI, oI, hbI, hblI, hcI⟩ := (HS.out.below HB.out).get (by rw [u16V_length, HNL.out]; omega)
      have e1 := hcI j _ (u16V_get list j (by rw [HNL.out]; exact hlt))
      have hx : list.getD j 0 ≤ 65535 := H16.out _ (by rw [List.getD_eq_getElem?_getD, List.getElem?_eq_getElem (by rw [HNL.out]; exact hlt)]; exact List.getElem_mem _)
      have HVS := Lib.hid (vals16_snoc list j (by rw [HNL.out]; exact hlt))
      generalize list.getD j 0 = x at *
      have hc1 : IntKind.i64.wrap ((x : Nat) : Int) = (x : Int) := IntWalk.i64_in _ (by omega)
      have HP := Lib.hid (put_zz w.heap.size ab (M + 2 * j) cb x 2 (M + 2 * (j + 1)) (x : Int) 2 rfl rfl (by omega) _ wr HO.out hzr (by omega) (by omega) (by decide))
      subst hbI
      clear hcI
      go_wp2_with (first | (go_at_call 67; (with_reducible refine HP.out.mono ?_); rintro e w6 ⟨a6, c6, rfl, ho6, _, _, _, hb6, _⟩; have HO6 := Lib.hid ho6; have HB6 := Lib.hid (HB.out.trans hb6); clear ho6 hb6))
      go_roundw
      case rel => exact ⟨j + 1, a6, c6, hlt, by go_num, rfl, by rw [HVS.out, ← List.append_assoc]; exact HO6.out, HB6.out⟩
      case measure => simp [Go.RowKit.intOf]; omega
    · obtain rfl : nL = j := by omega
      have ho := HO.out
      rw [List.take_of_length_le (by rw [HNL.out]; exact Nat.le_refl _), ← HIB.out] at ho
      obtain ⟨_, _, e3, kb1, kb2, kb3⟩ := owns_slice ho
      cases e3
      have HOF := Lib.hid ho
      clear ho
      go_wp2_with fail
      go_ret
      rw [HIL.out]
      exact ⟨ab, cb, rfl, HOF.out, kb1, kb2, kb3, HB.out⟩
end Go.Proofs.Ytbicnkopmamnpaa
end
section

/- What law 18 asks first: one glyph behind each. No condition. -/
namespace Go.Proofs.Ytbicnkopmamnpaa
open Go.RowKit Go.Lib

theorem planU_wf : ∀ e ∈ planU.ents, wfI e.1 ∧ wfI e.2.1 ∧ wfI e.2.2.1 ∧ wfI e.2.2.2 := by
  intro e he
  simp only [planU, List.mem_cons, List.not_mem_nil, or_false] at he
  rcases he with rfl
  unfold wfI
  decide
theorem putU_len : putU.length = 52 := putU_nums.1
theorem writeU (aR aE aL : Option Addr) (rv : List Value) (cC cR cE cL : Nat) (w : World) (h : PlanHas w planU none aR rv aE) (hL : Has w aL (u16V [9])) :
    Calls Try.prog 19 #[.agg #[.slice none 0 cC, .slice aR 2 cR, .slice aE 1 cE, .int .u8 0, .slice aL 1 cL]] w fun e w' => ∃ a' c', e = .returned (.slice a' 52 c') ∧ w'.ownsRow w.heap.size 5 1 (.slice a' 52 c') 52 (bytesV putU) ∧ Below w.heap.size w w' := by
  have := write18_any planU none aR aE rv cC cR cE aL 1 cL [9] w h (by decide) (by decide) (by decide) planU_wf hL rfl (by decide) (by decide)
  rw [show insB planU [9] = putU from rfl, putU_len] at this
  refine this.mono ?_
  rintro e w' ⟨a', c', h1, h2, _, _, _, h6⟩
  exact ⟨a', c', h1, h2, h6⟩
theorem runU_any (B gt gl : Nat) (a : Option Addr) (c : Nat) (w : World) {Bm : Nat} (hT : IIs 0 Bm gt putU [] 2 w) (hG : GIs B gl a c [(5, 0), (6, 1)] w) (hB : B ≤ w.heap.size) (hBl : B ≤ gl) :
    Calls Try.prog 22 #[.pointer (some ⟨gt, 0, none⟩), .pointer (some ⟨gl, 0, none⟩), .int .i64 3] w fun e w' => e = .returned (.tuple #[.int .i64 3, .int .i64 0]) ∧ (∃ a' c', GIs B gl a' c' [(5, 0), (9, 1), (6, 1), (9, 1), (9, 1)] w') ∧ Below B w w' := by
  have h56 : newG [5, 6] = [(5, 0), (6, 1)] := by rfl
  have hr := putU_runs
  rw [h56] at hr
  have := irun_any 0 Bm gt putU 9 [] 2 B gl a c [(5, 0), (6, 1)] 3 3 w hT (putU_ok 9) (by decide) (by decide) (Nat.zero_le _) hBl hG hB (by unfold IdsOk; decide) (by decide) (by decide)
  rw [hr] at this
  refine this.mono ?_
  rintro e w' ⟨rfl, ⟨a', c', hg, _⟩, hk⟩
  exact ⟨rfl, ⟨a', c', hg⟩, hk.below⟩
set_option maxRecDepth 100000 in
set_option maxHeartbeats 6400000 in
theorem speaks18_any (w : World) : Calls Try.prog 16 #[] w fun e w' => e = .returned (.bool true) ∧ Below w.heap.size w w' := by
  have hAC := allocC
  have hAF := allocF
  have e56 : newG [5, 6] = [(5, 0), (6, 1)] := by rfl
  go_enter Try.func16, Try.ntmps16
  go_wp2_with fail
  obtain ⟨w1, h1⟩ : ∃ w1, w1 = w.alloc (Obj.cells #[.int .u8 0] 5) := ⟨_, rfl⟩
  obtain ⟨w2, h2⟩ : ∃ w2, w2 = w1.alloc (Obj.cells #[.int .u8 0] 5) := ⟨_, rfl⟩
  obtain ⟨w3, h3⟩ : ∃ w3, w3 = w2.alloc (Obj.cells #[.slice (some ⟨w.heap.size, 0, none⟩) 1 1, .slice (some ⟨w.heap.size + 1, 0, none⟩) 1 1] 22) := ⟨_, rfl⟩
  obtain ⟨w4, h4⟩ : ∃ w4, w4 = w3.alloc (Obj.cells #[.int .i64 0, .int .i64 32, .int .i64 0, .int .i64 65535] 34) := ⟨_, rfl⟩
  obtain ⟨w5, h5⟩ : ∃ w5, w5 = w4.alloc (Obj.cells #[.int .u16 9] 111) := ⟨_, rfl⟩
  obtain ⟨w6, h6⟩ : ∃ w6, w6 = w5.alloc (Obj.cells #[.slice none 0 0, .slice (some ⟨w.heap.size + 1 + 1, 0, none⟩) 2 2, .slice (some ⟨w.heap.size + 1 + 1 + 1, 0, none⟩) 1 1, .int .u8 0, .slice (some ⟨w.heap.size + 1 + 1 + 1 + 1, 0, none⟩) 1 1] 29) := ⟨_, rfl⟩
  have z1 : w1.heap.size = w.heap.size + 1 := by rw [h1, World.size_alloc]
  have b1 : Below w.heap.size w w1 := by rw [h1]; exact balloc (brefl w) _
  have z2 : w2.heap.size = w.heap.size + 1 + 1 := by rw [h2, World.size_alloc, z1]
  have b2 : Below w1.heap.size w1 w2 := by rw [h2]; exact balloc (brefl w1) _
  have z3 : w3.heap.size = w.heap.size + 1 + 1 + 1 := by rw [h3, World.size_alloc, z2]
  have b3 : Below w2.heap.size w2 w3 := by rw [h3]; exact balloc (brefl w2) _
  have z4 : w4.heap.size = w.heap.size + 1 + 1 + 1 + 1 := by rw [h4, World.size_alloc, z3]
  have b4 : Below w3.heap.size w3 w4 := by rw [h4]; exact balloc (brefl w3) _
  have z5 : w5.heap.size = w.heap.size + 1 + 1 + 1 + 1 + 1 := by rw [h5, World.size_alloc, z4]
  have b5 : Below w4.heap.size w4 w5 := by rw [h5]; exact balloc (brefl w4) _
  have z6 : w6.heap.size = w.heap.size + 1 + 1 + 1 + 1 + 1 + 1 := by rw [h6, World.size_alloc, z5]
  have b6 : Below w5.heap.size w5 w6 := by rw [h6]; exact balloc (brefl w5) _
  have t6 := brefl w6
  have t5 := bthen b6 t6
  have t4 := bthen b5 t5
  have t3 := bthen b4 t4
  have t2 := bthen b3 t3
  have t1 := bthen b2 t2
  have t0 := bthen b1 t1
  have g1 := has_alloc w #[.int .u8 0] 5
  rw [← h1] at g1
  have g2 := has_alloc w1 #[.int .u8 0] 5
  rw [← h2, z1] at g2
  have g3 := has_alloc w2 #[.slice (some ⟨w.heap.size, 0, none⟩) 1 1, .slice (some ⟨w.heap.size + 1, 0, none⟩) 1 1] 22
  rw [← h3, z2] at g3
  have g4 := has_alloc w3 #[.int .i64 0, .int .i64 32, .int .i64 0, .int .i64 65535] 34
  rw [← h4, z3] at g4
  have g5 := has_alloc w4 #[.int .u16 9] 111
  rw [← h5, z4] at g5
  have g6 := has_alloc w5 #[.slice none 0 0, .slice (some ⟨w.heap.size + 1 + 1, 0, none⟩) 2 2, .slice (some ⟨w.heap.size + 1 + 1 + 1, 0, none⟩) 1 1, .int .u8 0, .slice (some ⟨w.heap.size + 1 + 1 + 1 + 1, 0, none⟩) 1 1] 29
  rw [← h6, z5] at g6
  have HP := Lib.hid (show PlanHas w6 planU none (some ⟨w.heap.size + 1 + 1, 0, none⟩) [.slice (some ⟨w.heap.size, 0, none⟩) 1 1, .slice (some ⟨w.heap.size + 1, 0, none⟩) 1 1] (some ⟨w.heap.size + 1 + 1 + 1, 0, none⟩) from ⟨Has.nil _ _, g3.below t3, rfl, fun i r hr => by
    match i, hr with
    | 0, hr => simp [planU] at hr; subst hr; exact ⟨_, 1, rfl, g1.below t1⟩
    | 1, hr => simp [planU] at hr; subst hr; exact ⟨_, 1, rfl, g2.below t2⟩
    | n + 2, hr => simp [planU] at hr, g4.below t4⟩)
  have HLS := Lib.hid (show Has w6 (some ⟨w.heap.size + 1 + 1 + 1 + 1, 0, none⟩) (u16V [9]) from g5.below t5)
  have HB6 := Lib.hid t0
  rw [← h1, ← h2, ← h3, ← h4, ← h5, ← h6]
  have q6 := fun o => cell_of_heap (show w6.heap[w5.heap.size]? = some (.cells #[.slice none 0 0, .slice (some ⟨w.heap.size + 1 + 1, 0, none⟩) 2 2, .slice (some ⟨w.heap.size + 1 + 1 + 1, 0, none⟩) 1 1, .int .u8 0, .slice (some ⟨w.heap.size + 1 + 1 + 1 + 1, 0, none⟩) 1 1] 29 (0, 0)) from by rw [h6]; exact (heap_push _ _ _).trans (if_pos rfl)) o
  clear h1 h2 h3 h4 h5 h6 t0 t1 t2 t3 t4 t5 t6 b1 b2 b3 b4 b5 b6 g1 g2 g3 g4 g5 g6 q6
  have HW := Lib.hid (writeU (some ⟨w.heap.size + 1 + 1, 0, none⟩) (some ⟨w.heap.size + 1 + 1 + 1, 0, none⟩) (some ⟨w.heap.size + 1 + 1 + 1 + 1, 0, none⟩) [.slice (some ⟨w.heap.size, 0, none⟩) 1 1, .slice (some ⟨w.heap.size + 1, 0, none⟩) 1 1] 0 2 1 1 w6 HP.out HLS.out)
  have LINE5 := Lib.hid (show (gv [(5, 0), (9, 1), (6, 1), (9, 1), (9, 1)]) = gv [(5, 0), (9, 1), (6, 1), (9, 1), (9, 1)] from rfl)
  refine HW.out.mono ?_
  rintro e w9 ⟨a9, c9, rfl, ho9, hb9⟩
  have HH9 := Lib.hid (has_of_owns ho9)
  have HB9 := Lib.hid (HB6.out.trans (hb9.mono HB6.out.size))
  clear ho9 hb9 z1 z2 z3 z4 z5 z6
  go_wp2_with (first
    | (go_at_call 18; (with_reducible refine (iread_some a9 52 c9 putU 9 9 rfl [] 2 w9 HH9.out putU_len (by decide) (by decide) (by decide) (putU_ok 9)).mono ?_); rintro e w10 ⟨gt, rfl, hT, hb10⟩; have HT := Lib.hid hT; have HB10 := Lib.hid (HB9.out.trans (hb10.mono HB9.out.size)); clear hT hb10)
    | (go_at_call 21; (with_reducible refine (gnew_any (some ⟨w10.heap.size, 0, none⟩) 2 2 [5, 6] (w10.alloc (.cells #[.int .i64 5, .int .i64 6] 3)) (has_alloc w10 _ _) rfl (by decide)).mono ?_); rintro e w11 ⟨gl, a11, c11, rfl, hG, hgl, hb11⟩; rw [e56] at hG; have hb78 := (balloc (brefl w10) (.cells #[.int .i64 5, .int .i64 6] 3)).trans (hb11.mono (by simp)); have HT11 := Lib.hid (HT.out.below hb78); have HB11 := Lib.hid (HB10.out.trans (hb78.mono HB10.out.size)); have HG11 := Lib.hid (hG.mono (show w.heap.size ≤ _ from by have := HB10.out.size; simp only [World.size_alloc]; omega)); have hgl2 : w.heap.size ≤ gl := (by have := HB10.out.size; simp only [World.size_alloc] at hgl; omega); have HX := Lib.hid (runU_any w.heap.size gt gl a11 c11 w11 HT11.out HG11.out HB11.out.size hgl2); clear hG hb11 hb78 hgl)
    | (go_at_call 22; (with_reducible refine HX.out.mono ?_); rintro e w12 ⟨rfl, ⟨a12, c12, hG⟩, hb12⟩; have HG12 := Lib.hid hG; have HB12 := Lib.hid (HB11.out.trans hb12); clear hG hb12)
    | (go_at_call 24; (with_reducible refine (gglyphs_any w.heap.size gl a12 c12 _ w12 HG12.out (by decide)).mono ?_); rintro e w13 ⟨a13, c13, rfl, ho, _, _, _, hb13⟩; have HH13 := Lib.hid (has_of_owns ho); have HB13 := Lib.hid (HB12.out.trans (hb13.mono HB12.out.size)); clear ho hb13)
    | (go_at_call 23; (refine (refSameG_any a13 (some ⟨w13.heap.size, 0, none⟩) 5 c13 5 5 [(5, 0), (9, 1), (6, 1), (9, 1), (9, 1)] [(5, 0), (9, 1), (6, 1), (9, 1), (9, 1)] (w13.alloc (.cells #[.int .i64 5, .int .i64 0, .int .i64 9, .int .i64 1, .int .i64 6, .int .i64 1, .int .i64 9, .int .i64 1, .int .i64 9, .int .i64 1] 130)) (HH13.out.below (balloc (brefl w13) _)) rfl (has_alloc w13 #[.int .i64 5, .int .i64 0, .int .i64 9, .int .i64 1, .int .i64 6, .int .i64 1, .int .i64 9, .int .i64 1, .int .i64 9, .int .i64 1] 130) rfl (by decide) (by decide)).mono ?_); rintro e w14 ⟨rfl, hb14⟩; rw [decide_eq_true rfl]; have HB14 := Lib.hid (HB13.out.trans ((balloc (brefl w13) (.cells #[.int .i64 5, .int .i64 0, .int .i64 9, .int .i64 1, .int .i64 6, .int .i64 1, .int .i64 9, .int .i64 1, .int .i64 9, .int .i64 1] 130)).trans (hb14.mono (by simp)) |>.mono HB13.out.size)); clear hb14))
  go_ret
  exact ⟨rfl, HB14.out⟩
end Go.Proofs.Ytbicnkopmamnpaa
end
section

/- What stays behind a Run of layer 18: another line, and the subtable. No condition of its own. -/
namespace Go.Proofs.Ytbicnkopmamnpaa
open Go.RowKit Go.Lib

end Go.Proofs.Ytbicnkopmamnpaa
end
section

/- The document's small functions of layer 18: Here, Marked; and From. Conditions: as each says. -/
namespace Go.Proofs.Ytbicnkopmamnpaa
open Go.RowKit Go.Lib

set_option maxRecDepth 100000 in
theorem hereR_any (e : Ent) (h : e.2.1 ≤ 65535) (w : World) : Calls Try.prog 72 #[.agg #[.int .i64 (e.1 : Nat), .int .i64 (e.2.1 : Nat), .int .i64 (e.2.2.1 : Nat), .int .i64 (e.2.2.2 : Nat)]] w fun r w' => r = .returned (.int .i64 (hereI e : Nat)) ∧ Below w.heap.size w w' := by
  have hAC := allocC
  have hAF := allocF
  obtain ⟨p, f, a, b⟩ := e
  simp only at h
  unfold hereI
  simp only
  by_cases h5 : a = 65535
  · have d1 : ((a : Int) == 65535) = true := by simp [h5]
    rw [if_pos h5]
    clear h5
    go_enter Try.func72, Try.ntmps72
    go_wp2_with fail
    go_ret
    exact ⟨rfl, blw⟩
  · have d1 : ((a : Int) == 65535) = false := by simp; omega
    rw [if_neg h5]
    have f1 : (f : Int).tdiv 32 = ((f / 32 : Nat) : Int) := by rw [Int.tdiv_eq_ediv_of_nonneg (by omega)]; omega
    have f2 : IntKind.i64.wrap ((f / 32 : Nat) : Int) = ((f / 32 : Nat) : Int) := IntWalk.i64_in _ (by omega)
    have f3 : ((f / 32 : Nat) : Int).tmod 32 = ((f / 32 % 32 : Nat) : Int) := by rw [Int.tmod_eq_emod_of_nonneg (by omega)]; omega
    have f4 : IntKind.i64.wrap ((f / 32 % 32 : Nat) : Int) = ((f / 32 % 32 : Nat) : Int) := IntWalk.i64_in _ (by omega)
    clear h5
    generalize f / 32 % 32 = y at *
    generalize f / 32 = x at *
    go_enter Try.func72, Try.ntmps72
    go_wp2_with fail
    go_ret
    exact ⟨rfl, blw⟩
set_option maxRecDepth 100000 in
theorem markR_any (e : Ent) (h : e.2.1 ≤ 65535) (w : World) : Calls Try.prog 74 #[.agg #[.int .i64 (e.1 : Nat), .int .i64 (e.2.1 : Nat), .int .i64 (e.2.2.1 : Nat), .int .i64 (e.2.2.2 : Nat)]] w fun r w' => r = .returned (.int .i64 (markI e : Nat)) ∧ Below w.heap.size w w' := by
  have hAC := allocC
  have hAF := allocF
  obtain ⟨p, f, a, b⟩ := e
  simp only at h
  unfold markI
  simp only
  by_cases h5 : b = 65535
  · have d1 : ((b : Int) == 65535) = true := by simp [h5]
    rw [if_pos h5]
    clear h5
    go_enter Try.func74, Try.ntmps74
    go_wp2_with fail
    go_ret
    exact ⟨rfl, blw⟩
  · have d1 : ((b : Int) == 65535) = false := by simp; omega
    rw [if_neg h5]
    have f3 : (f : Int).tmod 32 = ((f % 32 : Nat) : Int) := by rw [Int.tmod_eq_emod_of_nonneg (by omega)]; omega
    have f4 : IntKind.i64.wrap ((f % 32 : Nat) : Int) = ((f % 32 : Nat) : Int) := IntWalk.i64_in _ (by omega)
    clear h5
    generalize f % 32 = y at *
    go_enter Try.func74, Try.ntmps74
    go_wp2_with fail
    go_ret
    exact ⟨rfl, blw⟩
set_option maxRecDepth 100000 in
theorem from_bad (a : Option Addr) (n c : Nat) (z : Int) (hz : z < 0 ∨ (n : Int) < z) (w : World) : Calls Try.prog 69 #[.slice a n c, .int .i64 z] w fun r w' => r = .returned (.tuple #[.slice none 0 0, .bool false]) ∧ w = w' := by
  by_cases h0 : z < 0
  · have d1 : decide (z < 0) = true := by simpa using h0
    clear hz
    go_enter Try.func69, Try.ntmps69
    go_wp2_with fail
    refine bodyPost_ret (v := .tuple #[.slice none 0 0, .bool false]) (by simp [results, Try.results69, go_sem]) rfl ?_
    exact ⟨rfl, rfl⟩
  · have d1 : decide (z < 0) = false := by simpa using h0
    have h2 : (n : Int) < z := hz.resolve_left h0
    have d2 : decide ((n : Int) < z) = true := by simpa using h2
    clear hz
    go_enter Try.func69, Try.ntmps69
    go_wp2_with fail
    refine bodyPost_ret (v := .tuple #[.slice none 0 0, .bool false]) (by simp [results, Try.results69, go_sem]) rfl ?_
    exact ⟨rfl, rfl⟩
set_option maxRecDepth 100000 in
theorem from_ok (a : Option Addr) (n c k : Nat) (hn : n ≤ c) (hk : k ≤ n) (w : World) : Calls Try.prog 69 #[.slice a n c, .int .i64 (k : Nat)] w fun r w' => r = .returned (.tuple #[.slice (adv a c k) (n - k) (c - k), .bool true]) ∧ w = w' := by
  have d1 : decide ((k : Int) < 0) = false := by simp
  have d2 : decide ((n : Int) < (k : Int)) = false := by simp; omega
  have d3 : decide (n < k) = false := by simp; omega
  go_enter Try.func69, Try.ntmps69
  go_wp2_with fail
  · refine bodyPost_ret (v := .tuple #[.slice a (n - k) 0, .bool true]) (by simp [results, Try.results69, go_sem]) rfl ?_
    exact ⟨by simp [adv], rfl⟩
  · refine bodyPost_ret (v := .tuple #[.slice (Option.map (fun x => x.add k) a) (n - k) (c - k), .bool true]) (by simp [results, Try.results69, go_sem]) rfl ?_
    exact ⟨by simp [adv, h], rfl⟩
end Go.Proofs.Ytbicnkopmamnpaa
end
