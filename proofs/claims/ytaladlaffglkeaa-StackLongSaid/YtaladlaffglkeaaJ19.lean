/- Joined from: KTWrite KTPair KTNeed KTTake KTRead KTStk KTMove. -/
import Derived.Test.YtaladlaffglkeaaJ01
import Derived.Test.YtaladlaffglkeaaJ16
import Derived.Test.YtaladlaffglkeaaJ18
import Derived.Test.YtaladlaffglkeaaJ17
import Derived.Test.YtaladlaffglkeaaJ14
section

/- The law's Write of layer 23: a plan's bytes. Conditions: a plan in memory; sizes. -/
namespace Go.Proofs.Ytaladlaffglkeaa
open Go.RowKit Go.Lib

def u16Z (x : Int) : Nat := (x % 65536).toNat
theorem u16Z_le (x : Int) : u16Z x ≤ 65535 := by unfold u16Z; omega
def i16V (vs : List Int) : List Value := vs.map (Value.int .i16)
theorem i16V_length (vs : List Int) : (i16V vs).length = vs.length := by simp [i16V]
/-- A subtable of layer 23. -/
def stackB (p : PlanL) (vs : List Int) : List UInt8 := splice (planB p 1 4) 16 (beN 4 (planB p 1 4).length) ++ vals16 (vs.map u16Z)
theorem planL3 {p : PlanL} : (planB p 1 4).length = 26 + 2 * p.cls.length + 2 * (p.rows.length * p.n) + p.ents.length * 6 := by
  have := planB_length p 1 4 (by decide)
  omega
set_option maxRecDepth 100000 in
set_option maxHeartbeats 6400000 in
theorem write23_any (p : PlanL) (aC aR aE : Option Addr) (rv : List Value) (cC cR cE : Nat) (aL : Option Addr) (nL cL : Nat) (vs : List Int) (w : World) (h : PlanHas w p aC aR rv aE) (hC : p.cls.length ≤ 1000) (hR : p.rows.length ≤ 1000) (hE : p.ents.length ≤ 1000) (hwf : ∀ e ∈ p.ents, wfI e.1 ∧ wfI e.2.1 ∧ wfI e.2.2.1 ∧ wfI e.2.2.2)
    (hS : Has w aL (i16V vs)) (hnL : vs.length = nL) (hn1 : nL ≤ 1000) (h16 : ∀ x ∈ vs, -32768 ≤ x ∧ x ≤ 32767) :
    Calls Try.prog 30 #[.agg #[.slice aC p.cls.length cC, .slice aR p.rows.length cR, .slice aE p.ents.length cE, .int .u8 (p.wide.toNat : Nat), .slice aL nL cL]] w fun e w' => ∃ a' c', e = .returned (.slice a' (stackB p vs).length c') ∧ w'.ownsRow w.heap.size 5 1 (.slice a' (stackB p vs).length c') (stackB p vs).length (bytesV (stackB p vs)) ∧ (stackB p vs).length ≤ c' ∧ c' ≤ maxLen ∧ (a' = none → c' = 0) ∧ Below w.heap.size w w' := by
  have hAC := allocC
  have hAF := allocF
  have HW := Lib.hid (fun W (hW : Below w.heap.size w W) => write_any p 1 4 1 4 rfl rfl aC aR aE rv cC cR cE W (h.below hW) hC hR hE (by decide) (by decide) hwf)
  have hlen := planL3 (p := p)
  have hn4 : p.n ≤ 11 := by unfold PlanL.n; omega
  have hrn : p.rows.length * p.n ≤ 11000 := Nat.le_trans (Nat.mul_le_mul hR hn4) (by decide)
  have hIB : stackB p vs = splice (planB p 1 4) 16 (beN 4 (planB p 1 4).length) ++ vals16 (vs.map u16Z) := rfl
  obtain ⟨M, hM⟩ : ∃ M, M = (planB p 1 4).length := ⟨_, rfl⟩
  obtain ⟨X, hX⟩ : ∃ X, X = planB p 1 4 := ⟨_, rfl⟩
  rw [← hX] at hM hIB
  rw [← hX, ← hM] at HW
  rw [← hM] at hIB
  have hM1 : 26 ≤ M ∧ M ≤ 100000 := by rw [hM, hX]; omega
  have HX := Lib.hid hM
  have HIB := Lib.hid hIB
  have hIL : (stackB p vs).length = M + 2 * nL := by rw [hIB, List.length_append, length_splice _ 16 _ (by rw [beN_length, ← hM]; omega), ← hM, vals16_length, List.length_map, hnL]
  have HIL := Lib.hid hIL
  have HS := Lib.hid hS
  have HNL := Lib.hid hnL
  have H16 := Lib.hid h16
  have HPN := Lib.hid (fun W => put_zz W.heap.size none 0 0 M 4 4 (M : Int) 4 rfl rfl rfl [] W (World.ownsRow_nil _ _ _ _) (Nat.le_refl _) (by omega) (by omega) (by omega))
  have HDL := Lib.hid (show (beN 4 M).length = 4 from beN_length 4 M)
  clear h hwf hS hnL h16 hIB hIL hM hX hlen hrn hn4
  go_enter Try.func30, Try.ntmps30
  go_wp2_with (go_at_call 69; (with_reducible refine (HW.out _ (by exact blw)).mono ?_); rintro e w1 ⟨a1, c1, rfl, ho1, k1, k2, k3, hb1⟩; have HO1 := Lib.hid ho1; have h1z := hb1.size; have c2 := (hb1.block w.heap.size (by simp)).trans (show (w.alloc (.cells #[.slice aC p.cls.length cC, .slice aR p.rows.length cR, .slice aE p.ents.length cE, .int .u8 (p.wide.toNat : Nat), .slice aL nL cL] 69)).heap[w.heap.size]? = some (.cells #[.slice aC p.cls.length cC, .slice aR p.rows.length cR, .slice aE p.ents.length cE, .int .u8 (p.wide.toNat : Nat), .slice aL nL cL] 69 (0, 0)) from by rw [heap_push, if_pos rfl]); have HB1 := Lib.hid (show Below w.heap.size w w1 from by exact blw); clear ho1 hb1)
  obtain ⟨gb, rfl, hgb1, hgb2⟩ := owns_some HO1.out (by omega)
  have C2 := Lib.hid c2
  simp only [World.size_alloc] at h1z hgb1
  have hgb3 : w.heap.size ≠ gb := by omega
  have hl2 : w.heap.size < w1.heap.size := by omega
  clear c2
  refine wp_region_lastY (.step 0 (.step 1 (.step 2 (.step 3 (.step 4 (.step 5 .nil)))))) 5 (by kernel_rfl) (by kernel_rfl) (by kernel_rfl) (by kernel_rfl) (by kernel_rfl) (by intro _ _ d_ _ _ h_; cases d_ <;> first | exact h_ | (dsimp +zetaDelta only at h_ ⊢; exact h_)) (fun w' => ∃ p : Wld w1 [], w' = p.val) (wld_start _ _) ?_
  have hG_ := @wldC w1
  (refine z_quiet gtA (by rfl) (by rfl) (fun K_ hK_ => ?_); go_big_quiet_op; refine hK_ _ ?_; clear hK_ K_)
  (refine z_quiet gtA (by rfl) (by rfl) (fun K_ hK_ => ?_); go_big_quiet_op; refine hK_ _ ?_; clear hK_ K_)
  (refine z_quiet gtA (by rfl) (by rfl) (fun K_ hK_ => ?_); go_big_quiet_op; refine hK_ _ ?_; clear hK_ K_)
  (refine z_quiet gtA (by rfl) (by rfl) (fun K_ hK_ => ?_); go_big_quiet_op; refine hK_ _ ?_; clear hK_ K_)
  (refine z_run gtA (by rfl) (by rfl) (fun K_ hK_ => ?_); have HK_ := Lib.hid hK_; clear hK_; (first | ((refine wpCopyRow _ _ 22 22 rfl 5 Try.underlying22 u8_one _ gb M c1 (bytesV X) HO2.out 16 4 _ ⟨gd, 0, none⟩ 4 _ rfl rfl (bytesV (beN 4 M)) (by rw [bytesV_length, HDL.out]; rfl) (fun j v hj => by obtain ⟨p, hp, hc⟩ := HD2.out j v hj; cases hp; exact hc) (by rw [bytesV_length, HDL.out]; omega) (bytesV_one _) ?_; intro w3 ho3 hk3 hz3 hb3; rw [bytesV_splice] at ho3; have HO3 := Lib.hid ho3; have HK3 := Lib.hid (show ∀ k, k ≠ gb → w3.heap[k]? = w2.heap[k]? from hk3); have HZ3 := Lib.hid (show w3.heap.size = w2.heap.size from hz3); have HB3 := Lib.hid (show Below w.heap.size w w3 from HB2.out.trans (Below.mono hb3 (by omega))); clear ho3 hk3 hz3 hb3)) | (go_wp2_with (first | (go_at_call 70; (with_reducible refine (HPN.out _).mono ?_); rintro e w2 ⟨a2, c2, rfl, ho, _, _, _, hb2, _⟩; obtain ⟨gd, rfl, _, _⟩ := owns_some ho (by decide); have HD2 := Lib.hid (has_of_owns ho); have hbr : Below w1.heap.size w1 w2 := (by exact blw); have HO2 := Lib.hid (owns_below HO1.out hbr (Nat.le_refl _)); have HB2 := Lib.hid (HB1.out.trans (hbr.mono (by omega))); have HC2 := Lib.hid ((hbr.block _ hl2).trans C2.out); clear ho hbr)))); refine HK_.out _ _ (wld_ofA) ?_; clear HK_)
  (refine z_last gtA (by rfl) (by rfl) (by rfl) (fun K_ hK_ => ?_); have HK_ := Lib.hid hK_; clear hK_; (first | ((refine wpCopyRow _ _ 22 22 rfl 5 Try.underlying22 u8_one _ gb M c1 (bytesV X) HO2.out 16 4 _ ⟨gd, 0, none⟩ 4 _ rfl rfl (bytesV (beN 4 M)) (by rw [bytesV_length, HDL.out]; rfl) (fun j v hj => by obtain ⟨p, hp, hc⟩ := HD2.out j v hj; cases hp; exact hc) (by rw [bytesV_length, HDL.out]; omega) (bytesV_one _) ?_; intro w3 ho3 hk3 hz3 hb3; rw [bytesV_splice] at ho3; have HO3 := Lib.hid ho3; have HK3 := Lib.hid (show ∀ k, k ≠ gb → w3.heap[k]? = w2.heap[k]? from hk3); have HZ3 := Lib.hid (show w3.heap.size = w2.heap.size from hz3); have HB3 := Lib.hid (show Below w.heap.size w w3 from HB2.out.trans (Below.mono hb3 (by omega))); clear ho3 hk3 hz3 hb3)) | (go_wp2_with (first | (go_at_call 70; (with_reducible refine (HPN.out _).mono ?_); rintro e w2 ⟨a2, c2, rfl, ho, _, _, _, hb2, _⟩; obtain ⟨gd, rfl, _, _⟩ := owns_some ho (by decide); have HD2 := Lib.hid (has_of_owns ho); have hbr : Below w1.heap.size w1 w2 := (by exact blw); have HO2 := Lib.hid (owns_below HO1.out hbr (Nat.le_refl _)); have HB2 := Lib.hid (HB1.out.trans (hbr.mono (by omega))); have HC2 := Lib.hid ((hbr.block _ hl2).trans C2.out); clear ho hbr)))); refine HK_.out _ _ ?_; clear HK_)
  refine z_nil ?_
  clear hG_
  have c3 := (HK3.out _ hgb3).trans HC2.out
  have q3 := fun o => cell_of_heap c3 o
  have l3 := (Array.getElem?_eq_some_iff.1 c3).1
  have HO3B := Lib.hid (owns_mono HO3.out (show w.heap.size ≤ _ by simp))
  have hz3 := HB3.out.size
  clear c3
  go_wp2_with fail
  obtain ⟨Y, hY⟩ : ∃ Y, Y = splice X 16 (beN 4 M) := ⟨_, rfl⟩
  rw [← hY] at HO3B HIB
  clear hY
  go_loopw [3, 18] (fun b i wr => ∃ (j : Nat) (ab : Option Addr) (cb : Nat), j ≤ nL ∧ i = .int .i64 (j : Nat) ∧ b = .slice ab (M + 2 * j) cb ∧ wr.ownsRow w.heap.size 5 1 (.slice ab (M + 2 * j) cb) (M + 2 * j) (bytesV (Y ++ vals16 ((vs.map u16Z).take j))) ∧ Below w.heap.size w wr) (fun _ i _ => nL - (Go.RowKit.intOf i).toNat)
  case atStart => exact ⟨0, _, _, Nat.zero_le _, rfl, rfl, by have := HO3B.out; simpa [vals16] using this, HB3.out⟩
  case round =>
    obtain ⟨j, ab, cb, hj, rfl, rfl, ho, hb⟩ := hrel
    rename World => wr
    have HO := Lib.hid ho
    have HB := Lib.hid hb
    have hzr := hb.size
    clear ho hb
    by_cases hlt : j < nL
    · obtain ⟨bI, oI, hbI, hblI, hcI⟩ := (HS.out.below HB.out).get (by rw [i16V_length, HNL.out]; omega)
      obtain ⟨v, hv⟩ : ∃ v, vs[j]? = some v := ⟨_, List.getElem?_eq_getElem (by rw [HNL.out]; exact hlt)⟩
      have e1 := hcI j (.int .i16 v) (by rw [i16V, List.getElem?_map, hv]; rfl)
      have hx : -32768 ≤ v ∧ v ≤ 32767 := H16.out _ (List.mem_of_getElem? hv)
      have HVS := Lib.hid (vals16_snoc (vs.map u16Z) j (by rw [List.length_map, HNL.out]; exact hlt))
      have hgd : (vs.map u16Z).getD j 0 = u16Z v := by rw [List.getD_eq_getElem?_getD, List.getElem?_map, hv]; rfl
      rw [hgd] at HVS
      have hx2 := u16Z_le v
      have hc1 : IntKind.i64.wrap (IntKind.u16.wrap v) = ((u16Z v : Nat) : Int) := by
        simp only [IntKind.wrap, IntKind.bits, IntKind.signed, u16Z]
        simp
        omega
      generalize u16Z v = x at *
      have HP := Lib.hid (put_zz w.heap.size ab (M + 2 * j) cb x 2 (M + 2 * (j + 1)) (x : Int) 2 rfl rfl (by omega) _ wr HO.out hzr (by omega) (by omega) (by decide))
      clear hv hgd
      subst hbI
      clear hcI
      go_wp2_with (first | (go_at_call 70; (with_reducible refine HP.out.mono ?_); rintro e w6 ⟨a6, c6, rfl, ho6, _, _, _, hb6, _⟩; have HO6 := Lib.hid ho6; have HB6 := Lib.hid (HB.out.trans hb6); clear ho6 hb6))
      go_roundw
      case rel => exact ⟨j + 1, a6, c6, hlt, by go_num, rfl, by rw [HVS.out, ← List.append_assoc]; exact HO6.out, HB6.out⟩
      case measure => simp [Go.RowKit.intOf]; omega
    · obtain rfl : nL = j := by omega
      have ho := HO.out
      rw [List.take_of_length_le (by rw [List.length_map, HNL.out]; exact Nat.le_refl _), ← HIB.out] at ho
      obtain ⟨_, _, e3, kb1, kb2, kb3⟩ := owns_slice ho
      cases e3
      have HOF := Lib.hid ho
      clear ho
      go_wp2_with fail
      go_ret
      rw [HIL.out]
      exact ⟨ab, cb, rfl, HOF.out, kb1, kb2, kb3, HB.out⟩
end Go.Proofs.Ytaladlaffglkeaa
end
section

/- The machine of law 23 that keeps all glyphs, and moves at the last one: its bytes, with any values. No condition. -/
namespace Go.Proofs.Ytaladlaffglkeaa
open Go.RowKit Go.Lib

section
variable {p : PlanL}
theorem stackB_length (vs : List Int) : (stackB p vs).length = (planB p 1 4).length + 2 * vs.length := by
  have hl := planL3 (p := p)
  unfold stackB
  rw [List.length_append, length_splice _ _ _ (by rw [beN_length]; omega), vals16_length, List.length_map]
theorem stackB_num (vs : List Int) (k s : Nat) (hk : k + s ≤ 16 ∨ 20 ≤ k) (h : k + s ≤ (planB p 1 4).length) : num (stackB p vs) k s = num (planB p 1 4) k s := by
  have hl := planL3 (p := p)
  unfold stackB
  rw [numL _ _ _ _ (by rw [length_splice _ _ _ (by rw [beN_length]; omega)]; exact h), num_splice _ _ _ _ _ (by rw [beN_length]; omega) (by rw [beN_length]; omega)]
theorem stackB_list (vs : List Int) (h : (planB p 1 4).length < 4294967296) : num (stackB p vs) 16 4 = (planB p 1 4).length ∧ (stackB p vs).drop ((planB p 1 4).length) = vals16 (vs.map u16Z) := by
  have hl := planL3 (p := p)
  have hb := numL4 (planB p 1 4).length [] h
  rw [List.append_nil] at hb
  unfold stackB
  refine ⟨?_, List.drop_left' (length_splice _ _ _ (by rw [beN_length]; omega))⟩
  rw [numL _ _ _ _ (by rw [length_splice _ _ _ (by rw [beN_length]; omega)]; omega), num_spliceIn _ _ _ _ (by rw [beN_length]; omega) (by rw [beN_length]; decide), hb]
end
def planQ23 : PlanL := ⟨[4, 5], [[0, 0, 0, 0, 1, 2], [0, 0, 0, 0, 1, 2]], [(0, 0, 65535, 0), (0, 32768, 65535, 0), (0, 32768, 0, 0)], 2⟩
def headQ23 : List UInt8 := planB planQ23 1 4
theorem headQ23_length : headQ23.length = 72 := by decide
theorem stackS_length (vs : List Int) : (stackB planQ23 vs).length = 72 + 2 * vs.length := by
  rw [stackB_length]
  have : (planB planQ23 1 4).length = 72 := headQ23_length
  rw [this]
section
variable (vs : List Int)
theorem stkN (k s : Nat) (hk : k + s ≤ 16 ∨ 20 ≤ k) (h : k + s ≤ 72) : num (stackB planQ23 vs) k s = num headQ23 k s := stackB_num vs k s hk (by have : (planB planQ23 1 4).length = 72 := headQ23_length; omega)
theorem stk0 : num (stackB planQ23 vs) 0 4 = 6 := by rw [stkN vs 0 4 (by decide) (by decide)]; decide
theorem stk4 : num (stackB planQ23 vs) 4 4 = 20 := by rw [stkN vs 4 4 (by decide) (by decide)]; decide
theorem stk8 : num (stackB planQ23 vs) 8 4 = 30 := by rw [stkN vs 8 4 (by decide) (by decide)]; decide
theorem stk12 : num (stackB planQ23 vs) 12 4 = 54 := by rw [stkN vs 12 4 (by decide) (by decide)]; decide
theorem stkEnt (i : Nat) (h : i < 12) : entN (stackB planQ23 vs) i = if i % 6 < 4 then 0 else i % 6 - 3 := by
  unfold entN
  rw [stk8, stkN vs _ 2 (by omega) (by omega)]
  have : ∀ i, i < 12 → num headQ23 (30 + 2 * i) 2 = if i % 6 < 4 then 0 else i % 6 - 3 := by decide
  exact this i h
theorem stkNext (j : Nat) (h : j < 3) : nextN (stackB planQ23 vs) 1 j = 0 := by
  unfold nextN
  rw [stk12, stkN vs _ 2 (by omega) (by omega)]
  have : ∀ j, j < 3 → num headQ23 (54 + j * (4 + 2 * 1)) 2 = 0 := by decide
  exact this j h
theorem stkNeed : needE (stackB planQ23 vs) 2 = 3 := by
  unfold needE
  rw [stk0]
  have h1 : needL (entN (stackB planQ23 vs)) 12 ≤ 3 := needL_le fun i hi => by
    rw [stkEnt vs i hi]
    split <;> omega
  have h2 := needL_lt (f := entN (stackB planQ23 vs)) (show 5 < 12 by decide)
  rw [stkEnt vs 5 (by decide)] at h2
  show needL (entN (stackB planQ23 vs)) 12 = 3
  simp at h2
  omega
theorem stkX (j : Nat) (h : j < 3) : entX ((stackB planQ23 vs).drop (num (stackB planQ23 vs) 12 4)) 1 j = (0, if j = 0 then 0 else 32768, if j = 2 then 0 else 65535, 0) := by
  unfold entX
  rw [stk12]
  simp only [num_dropS]
  rw [stkN vs _ 2 (by omega) (by omega), stkN vs _ 2 (by omega) (by omega), stkN vs _ 2 (by omega) (by omega)]
  have : ∀ j, j < 3 → num headQ23 (54 + j * (4 + 2 * 1)) 2 = 0 ∧ num headQ23 (54 + (j * (4 + 2 * 1) + 2)) 2 = (if j = 0 then 0 else 32768) ∧ num headQ23 (54 + (j * (4 + 2 * 1) + 4)) 2 = (if j = 2 then 0 else 65535) := by decide
  obtain ⟨h1, h2, h3⟩ := this j h
  rw [h1, h2, h3]
  rfl
theorem stkM (c : Nat) (hc : c < 6) : enM (stackB planQ23 vs) 1 0 c = if c < 4 then (0, 0, 65535, 0) else if c = 4 then (0, 32768, 65535, 0) else (0, 32768, 0, 0) := by
  unfold enM
  rw [stk0, stkEnt vs (0 * 6 + c) (by omega)]
  have h : 0 * 6 + c = c := by omega
  rw [h, Nat.mod_eq_of_lt hc]
  by_cases h1 : c < 4
  · rw [if_pos h1, if_pos h1, stkX vs 0 (by decide)]
    rfl
  · rw [if_neg h1, if_neg h1, stkX vs _ (by omega)]
    by_cases h2 : c = 4
    · subst h2; rfl
    · obtain rfl : c = 5 := by omega
      rfl
theorem stkLk (glyphs : Nat) : LkOk ((stackB planQ23 vs).drop (num (stackB planQ23 vs) 4 4)) glyphs 2 rsP := by
  have hl := stackS_length vs
  have hn : ∀ k, k + 2 ≤ 52 → num ((stackB planQ23 vs).drop 20) k 2 = num headQ23 (20 + k) 2 := fun k hk => by rw [num_dropS, stkN vs _ 2 (by omega) (by omega)]
  rw [stk4]
  have n1 : num ((stackB planQ23 vs).drop 20) 0 2 = 8 := by rw [hn 0 (by decide)]; decide
  have n2 : num ((stackB planQ23 vs).drop 20) 2 2 = 0 := by rw [hn 2 (by decide)]; decide
  have n3 : num ((stackB planQ23 vs).drop 20) 4 2 = 2 := by rw [hn 4 (by decide)]; decide
  have := LkRows.eight (bs := (stackB planQ23 vs).drop 20) (glyphs := glyphs) (size := 2) (by rw [List.length_drop, hl]; omega) n1 (by omega)
  rw [n2, n3] at this
  exact ⟨this, (ok_rowsT _ _ _ _ _ (by rw [List.length_drop, hl]; omega)).2 (by rw [List.length_drop, hl]; omega)⟩
theorem stkClass (id : Int) : classM (stackB planQ23 vs) rsP id = if id = 65535 then 2 else if id = 0 then 4 else if id = 1 then 5 else 1 := by
  rw [← classG_M (stackB planQ23 vs) rsP (stkLk vs 40) (by decide)]
  have hn : ∀ k, k + 2 ≤ 52 → num ((stackB planQ23 vs).drop 20) k 2 = num headQ23 (20 + k) 2 := fun k hk => by rw [num_dropS, stkN vs _ 2 (by omega) (by omega)]
  have v0 : num ((stackB planQ23 vs).drop 20) 6 2 = 4 := by rw [hn 6 (by decide)]; decide
  have v1 : num ((stackB planQ23 vs).drop 20) 8 2 = 5 := by rw [hn 8 (by decide)]; decide
  have hG : refG ((stackB planQ23 vs).drop 20) rsP id = if id = 0 then (4, true) else if id = 1 then (5, true) else (0, false) := by
    have hr : rsP = [⟨0, 1, 6, 2, true⟩] := rfl
    unfold refG
    rw [hr]
    by_cases h : 0 ≤ id ∧ id ≤ 1
    · have hin : inR id ⟨0, 1, 6, 2, true⟩ = true := by unfold inR; simp; omega
      rw [List.find?_cons_of_pos hin]
      rcases (show id = 0 ∨ id = 1 by omega) with rfl | rfl
      · show (num ((stackB planQ23 vs).drop 20) 6 2, true) = (4, true)
        rw [v0]
      · show (num ((stackB planQ23 vs).drop 20) 8 2, true) = (5, true)
        rw [v1]
    · have hin : ¬ inR id ⟨0, 1, 6, 2, true⟩ = true := by unfold inR; simp; omega
      rw [List.find?_cons_of_neg hin, if_neg (by omega), if_neg (by omega)]
      rfl
  unfold classG
  rw [stk0, stk4, hG]
  by_cases h65 : id = 65535
  · rw [if_pos h65, if_pos h65]
  rw [if_neg h65, if_neg h65]
  by_cases h0 : id = 0
  · rw [if_pos h0, if_pos h0]
    rfl
  rw [if_neg h0, if_neg h0]
  by_cases h1 : id = 1
  · rw [if_pos h1, if_pos h1]
    rfl
  · rw [if_neg h1, if_neg h1]
    rfl
theorem stkMOk (glyphs : Nat) : MOk (stackB planQ23 vs) glyphs 1 rsP 2 := by
  have hl := stackS_length vs
  refine ⟨by rw [hl]; omega, by rw [stk0]; decide, by rw [stk4, hl]; omega, stkLk vs glyphs, by rw [stk8, hl]; omega, by rw [stk12, hl]; omega, ⟨⟨by decide, ?_⟩, fun S' h => h.1⟩, by rw [stk0, stk8, hl]; omega, by rw [stkNeed, stk12, hl]; omega⟩
  rw [stkNeed]
  exact needL_le fun i hi => by rw [stkNext vs i hi]; decide
theorem stkAt : num (stackB planQ23 vs) 16 4 = 72 ∧ (stackB planQ23 vs).drop 72 = vals16 (vs.map u16Z) := by
  have hp : (planB planQ23 1 4).length = 72 := headQ23_length
  have := stackB_list (p := planQ23) vs (by rw [hp]; decide)
  rwa [hp] at this
theorem stkOk (glyphs : Nat) (k : Nat) (hk : k < vs.length) (hv : u16Z (vs.getD k 0) % 2 = 1) : QOk (stackB planQ23 vs) glyphs rsP 2 := by
  have hl := stackS_length vs
  obtain ⟨h16, hd⟩ := stkAt vs
  refine ⟨stkMOk vs glyphs, by rw [hl]; omega, by rw [h16, hl]; omega, fun j hj hf => ?_⟩
  rw [stkNeed] at hj
  rw [stkX vs j hj] at hf ⊢
  have hj2 : j = 2 := by
    apply Classical.byContradiction
    intro h
    simp [h] at hf
  subst hj2
  refine ⟨k, by simp, by rw [h16, hl]; omega, ?_⟩
  rw [h16, ← num_dropS, hd, vals16_num _ _ (fun x hx => by simp only [List.mem_map] at hx; obtain ⟨z, _, rfl⟩ := hx; exact u16Z_le z) (by simpa using hk)]
  rw [List.getD_eq_getElem?_getD, List.getElem?_map]
  rw [List.getD_eq_getElem?_getD] at hv
  rw [List.getElem?_eq_getElem hk] at hv ⊢
  exact hv
end
def bytesQ23 : List UInt8 := stackB planQ23 [-20, 31]
theorem bytesQ23_len : bytesQ23.length = 76 := by decide
theorem okS23 (glyphs : Nat) : QOk bytesQ23 glyphs rsP 2 := stkOk [-20, 31] glyphs 1 (by decide) (by decide)
def runQ23 : QX × Nat × Nat := stackD bytesQ23 rsP (bytesQ23.drop (num bytesQ23 16 4)) false false [(0, 0), (1, 1)] [(100, 0, 0), (200, 0, 0)]
theorem runQ23_is : runQ23.1.2 = [(130, 0, 0), (180, 0, 0)] ∧ runQ23.2.2 = 0 := by constructor <;> decide +kernel
end Go.Proofs.Ytaladlaffglkeaa
end
section

/- stack: from each value that an entry begins with they are there, up to an odd one, or it throws. Conditions: a machine in memory, and values as the slice says. -/
namespace Go.Proofs.Ytaladlaffglkeaa
open Go.RowKit Go.Lib

set_option maxRecDepth 100000 in
set_option maxHeartbeats 1600000 in
/-- The value of a number. -/
theorem value_ok (gt : Nat) (v0 : Value) (fz : Nat × Nat) (a : Option Addr) (n c : Nat) (ac : List UInt8) (k : Nat) (z : Int) (hz : z = (k : Nat)) (w : World) (ht : w.heap[gt]? = some (.cells #[v0, .slice a n c] 177 fz)) (h : Has w a (bytesV ac)) (hl : ac.length = n) (hn : n ≤ c) (hc : c ≤ maxLen) (hk : 2 * k + 2 ≤ n) :
    Calls Try.prog 130 #[.pointer (some ⟨gt, 0, none⟩), .int .i64 z] w fun e w' => e = .returned (.int .i64 (s16 (num ac (2 * k) 2))) ∧ Below w.heap.size w w' := by
  subst hz
  have HH := Lib.hid h
  have HL := Lib.hid hl
  have qt := fun o => cell_of_heap ht o
  have lt := (Array.getElem?_eq_some_iff.1 ht).1
  have hm : n ≤ 9223372036854775807 := by unfold maxLen at hc; omega
  have HU := Lib.hid (fun W (hW : Below w.heap.size w W) (z : Int) (hz : z = ((2 * k : Nat) : Int)) => i16_z a n c (2 * k) z hz ac W (HH.out.below hW) HL.out hk hn hc)
  clear h hl
  go_enter Try.func130, Try.ntmps130
  go_wp2_with (first | (go_at_call 93; (with_reducible refine (HU.out _ (by exact blw) _ (by go_num)).mono ?_); rintro e w1 ⟨rfl, hb1⟩; have h1c := bc hb1; have h1f := bf hb1; have h1z := hb1.size; try simp only [World.size_alloc, World.size_drew] at h1z))
  go_ret
  exact ⟨rfl, blw⟩
set_option maxRecDepth 100000 in
set_option maxHeartbeats 1600000 in
/-- It throws, if there is none. -/
theorem value_bad (gt : Nat) (v0 : Value) (fz : Nat × Nat) (a : Option Addr) (n c : Nat) (k : Nat) (z : Int) (hz : z = (k : Nat)) (w : World) (ht : w.heap[gt]? = some (.cells #[v0, .slice a n c] 177 fz)) (hn : n ≤ c) (hc : c ≤ maxLen) (hk : 2 * k ≤ 9223372036854775807) (hbad : ¬ 2 * k + 2 ≤ n) :
    Calls Try.prog 130 #[.pointer (some ⟨gt, 0, none⟩), .int .i64 z] w fun e w' => e = .panicked thrown ∧ Below w.heap.size w w' := by
  subst hz
  have qt := fun o => cell_of_heap ht o
  have lt := (Array.getElem?_eq_some_iff.1 ht).1
  have HU := Lib.hid (fun W (z : Int) (hz : z = ((2 * k : Nat) : Int)) => i16_bad a n c z W (by omega) hn hc)
  go_enter Try.func130, Try.ntmps130
  go_wp2_with (first | (go_at_call 93; (with_reducible refine (HU.out _ _ (by go_num)).mono ?_); rintro e w1 ⟨rfl, hb1⟩; have h1c := bc hb1; have h1f := bf hb1; have h1z := hb1.size; try simp only [World.size_alloc, World.size_drew] at h1z))
  exact ⟨rfl, rfl, blw⟩
set_option maxRecDepth 100000 in
set_option maxHeartbeats 6400000 in
theorem needv_any (B gt g : Nat) (bs : List UInt8) (rs : List RP) (S : Nat) (a : Option Addr) (n c : Nat) (ac : List UInt8) (w : World) (ht : w.heap[gt]? = some (.cells #[.pointer (some ⟨g, 0, none⟩), .slice a n c] 177 (0, 0))) (hM : MIs B g bs 1 rs S w) (h : Has w a (bytesV ac)) (hl : ac.length = n) (hn : n ≤ c) (hc : c ≤ maxLen) :
    Calls Try.prog 89 #[.pointer (some ⟨gt, 0, none⟩)] w fun e w' => ((GoodQ (bs.drop (num bs 12 4)) ac (needE bs S) ∧ e = .returned (.tuple #[])) ∨ (¬ GoodQ (bs.drop (num bs 12 4)) ac (needE bs S) ∧ e = .panicked thrown)) ∧ Below w.heap.size w w' := by
  have hAC := allocC
  have hAF := allocF
  have hmax : n ≤ 9223372036854775807 := by unfold maxLen at hc; omega
  have hlt0 := (Array.getElem?_eq_some_iff.1 ht).1
  have HT := Lib.hid (fun W (hW : Below w.heap.size w W) => (hW.block gt hlt0).trans ht)
  have HH := Lib.hid h
  have HL := Lib.hid hl
  have HEN := Lib.hid (fun W (hW : Below w.heap.size w W) => entries_any B g bs 1 rs S W (hM.below hW))
  have HOK := Lib.hid (fun W (hW : Below w.heap.size w W) (k : Nat) (z : Int) (hz : z = (k : Nat)) (hk : 2 * k + 2 ≤ n) => value_ok gt _ (0, 0) a n c ac k z hz W ((hW.block gt hlt0).trans ht) (h.below hW) hl hn hc hk)
  have HBAD := Lib.hid (fun W (hW : Below w.heap.size w W) (k : Nat) (z : Int) (hz : z = (k : Nat)) (hk9 : 2 * k ≤ 9223372036854775807) (hk : ¬ 2 * k + 2 ≤ n) => value_bad gt (.pointer (some ⟨g, 0, none⟩)) (0, 0) a n c k z hz W ((hW.block gt hlt0).trans ht) hn hc hk9 hk)
  have qt := fun o => cell_of_heap ht o
  have hN6 := needE_le bs S
  obtain ⟨N, hN⟩ : ∃ N, N = needE bs S := ⟨_, rfl⟩
  obtain ⟨vb, hvb⟩ : ∃ vb, vb = bs.drop (num bs 12 4) := ⟨_, rfl⟩
  rw [← hN, ← hvb] at HEN
  rw [← hN] at hN6
  rw [← hN, ← hvb]
  clear ht h hl hM hN hvb
  go_enter Try.func89, Try.ntmps89
  go_wp2_with (go_at_call 135; (with_reducible refine (HEN.out _ (by exact blw)).mono ?_); rintro e w1 ⟨aE, cE, rfl, ho, _, _, _, hb1⟩; have HHE := Lib.hid (has_of_owns ho); have HB1 := Lib.hid hb1; clear ho hb1)
  go_loopw [2, 11] (fun sn i wr => ∃ j s : Nat, j ≤ N ∧ sn = .int .i64 (s : Nat) ∧ i = .int .i64 (j : Nat) ∧ GoodQ vb ac j ∧ (s = 0 ∨ (2 * s ≤ n ∧ num ac (2 * (s - 1)) 2 % 2 = 1)) ∧ Below w.heap.size w wr ∧ Below w1.heap.size w1 wr) (fun _ i _ => N - (RowKit.intOf i).toNat)
  case atStart => exact ⟨0, 0, Nat.zero_le _, rfl, rfl, fun i hi => absurd hi (by omega), .inl rfl, HB1.out, brefl _⟩
  case round =>
    obtain ⟨j, s, hj, rfl, rfl, hgood, hs, hb, hbe⟩ := hrel
    rename World => wr
    have HG := Lib.hid hgood
    have HS := Lib.hid hs
    have HB := Lib.hid hb
    have HBE := Lib.hid hbe
    have hs4 : 2 * s ≤ n := by rcases hs with rfl | h <;> omega
    clear hgood hs hb hbe
    by_cases hlt : j < N
    · obtain ⟨gE, oE, rfl, hg, c0, c1, c2, c3⟩ := ent_at (HHE.out.below HBE.out) hlt
      have hle := entX_le vb 1 j
      have hstep := HG.out.step (vb := vb) (vs := ac) (j := j)
      have hneed : GoodQ vb ac N → (entX vb 1 j).2.2.1 ≠ 65535 → GoodV ac (entX vb 1 j).2.2.1 := fun h => h j hlt
      generalize entX vb 1 j = E at *
      obtain ⟨e0, F, A, Bv⟩ := E
      simp only at c0 c1 c2 c3 hle hstep hneed
      obtain ⟨_, hF6, hA6, hB6⟩ := hle
      have HST := Lib.hid hstep
      have HND := Lib.hid hneed
      clear hstep hneed
      by_cases hF : A ≠ 65535
      · have dF : ((A : Int) == 65535) = false := by simp; omega
        have HF := Lib.hid hF
        clear hF
        by_cases hA : A < s
        · have dA : decide ((A : Int) < (s : Int)) = true := by simp; omega
          have HGA := Lib.hid (show GoodV ac A from ⟨s - 1, by omega, by rw [HL.out]; omega, by rcases HS.out with h | h; omega; exact h.2⟩)
          go_wp2_with fail
          go_roundw
          case rel => exact ⟨j + 1, s, hlt, rfl, by go_num, HST.out (fun _ => HGA.out), HS.out, HB.out.trans (Below.mono (balloc (brefl _) _) HB.out.size), HBE.out.trans (Below.mono (balloc (brefl _) _) HBE.out.size)⟩
          case measure => simp only [RowKit.intOf]; omega
        · have dA : decide ((A : Int) < (s : Int)) = false := by simp; omega
          have HA := Lib.hid hA
          go_wp2_with fail
          go_loopw [2] (fun sn wi => ∃ q : Nat, sn = .int .i64 ((q + 1 : Nat) : Int) ∧ A ≤ q ∧ (q = A ∨ 2 * q ≤ n) ∧ (∀ k, A ≤ k → k < q → 2 * k + 2 ≤ n ∧ ¬ num ac (2 * k) 2 % 2 = 1) ∧ Below wr.heap.size wr wi) (fun sn _ => n + 65540 - (RowKit.intOf sn).toNat)
          case atStart => exact ⟨A, by go_num, Nat.le_refl _, .inl rfl, fun k h1 h2 => absurd h2 (by omega), balloc (brefl _) _⟩
          case round =>
            obtain ⟨q, rfl, hq, hqn, hno, hbi⟩ := hrel
            rename World => wi
            have HNO := Lib.hid hno
            have HBI := Lib.hid (HB.out.trans (hbi.mono HB.out.size))
            have HBJ := Lib.hid (HBE.out.trans (hbi.mono HBE.out.size))
            have HBK := Lib.hid hbi
            clear hno hbi
            by_cases h4 : 2 * q + 2 ≤ n
            · have hnum : num ac (2 * q) 2 ≤ 65535 := num2_lt ac (2 * q)
              have HOKq := Lib.hid (fun W (hW : Below wi.heap.size wi W) (z : Int) (hz : z = (q : Nat)) => HOK.out W (HBI.out.trans (hW.mono HBI.out.size)) q z hz h4)
              obtain ⟨X, hX⟩ : ∃ X, X = num ac (2 * q) 2 := ⟨_, rfl⟩
              rw [← hX] at HOKq hnum
              have HX := Lib.hid hX
              clear hX
              by_cases hlast : X % 2 = 1
              · have dL : bits .and .i64 (s16 X) 1 = 1 := by rw [s16_bit, hlast]; rfl
                have HGA := Lib.hid (show GoodV ac A from ⟨q, hq, by rw [HL.out]; exact h4, by rw [← HX.out]; exact hlast⟩)
                have HLAST := Lib.hid (show num ac (2 * (q + 1 - 1)) 2 % 2 = 1 by rw [Nat.add_sub_cancel, ← HX.out]; exact hlast)
                clear hlast
                go_wp2_with (first | (go_at_call 130; (with_reducible refine (HOKq.out _ (by exact blw) _ (by go_num)).mono ?_); rintro e w5 ⟨rfl, hb5⟩; have HB5 := Lib.hid hb5; clear hb5))
                go_roundw
                case rel => exact ⟨j + 1, q + 1, hlt, rfl, by go_num, HST.out (fun _ => HGA.out), .inr ⟨by omega, HLAST.out⟩, HBI.out.trans (HB5.out.mono HBI.out.size), HBJ.out.trans (HB5.out.mono HBJ.out.size)⟩
                case measure => simp only [RowKit.intOf]; omega
              · have dL : bits .and .i64 (s16 X) 1 = 0 := by rw [s16_bit, show X % 2 = 0 by omega]; rfl
                have HLN := Lib.hid hlast
                clear hlast
                go_wp2_with (first | (go_at_call 130; (with_reducible refine (HOKq.out _ (by exact blw) _ (by go_num)).mono ?_); rintro e w5 ⟨rfl, hb5⟩; have HB5 := Lib.hid hb5; clear hb5))
                go_roundw
                case rel =>
                  refine ⟨q + 1, by go_num, by omega, .inr (by omega), fun k h1 h2 => ?_, HBK.out.trans (HB5.out.mono HBK.out.size)⟩
                  by_cases e : k = q
                  · subst e
                    exact ⟨h4, by rw [← HX.out]; exact HLN.out⟩
                  · exact HNO.out k h1 (by omega)
                case measure => simp only [RowKit.intOf]; omega
            · have HBADq := Lib.hid (fun W (hW : Below wi.heap.size wi W) (z : Int) (hz : z = (q : Nat)) => HBAD.out W (HBI.out.trans (hW.mono HBI.out.size)) q z hz)
              have HBAD2 := Lib.hid (show ¬ GoodQ vb ac N from fun hg => by
                obtain ⟨k, h1, h2, h3⟩ := HND.out hg HF.out
                rw [HL.out] at h2
                by_cases e : k < q
                · exact (HNO.out k h1 e).2 h3
                · omega)
              go_wp2_with (first | (go_at_call 130; (with_reducible refine (HBADq.out _ (by exact blw) _ (by go_num) (by omega) h4).mono ?_); rintro e w5 ⟨rfl, hb5⟩; have HB5 := Lib.hid hb5; clear hb5))
              exact ⟨rfl, .inr ⟨HBAD2.out, rfl⟩, HBI.out.trans (HB5.out.mono HBI.out.size)⟩
      · have dF : ((A : Int) == 65535) = true := by simp; omega
        have HF := Lib.hid hF
        clear hF
        go_wp2_with fail
        go_roundw
        case rel => exact ⟨j + 1, s, hlt, rfl, by go_num, HST.out (fun h => absurd h HF.out), HS.out, HB.out.trans (Below.mono (balloc (brefl _) _) HB.out.size), HBE.out.trans (Below.mono (balloc (brefl _) _) HBE.out.size)⟩
        case measure => simp only [RowKit.intOf]; omega
    · obtain rfl : N = j := by omega
      go_wp2_with fail
      go_end0
      exact ⟨.inl ⟨HG.out, rfl⟩, HB.out⟩
end Go.Proofs.Ytaladlaffglkeaa
end
section

/- stack.Take: such a subtable that a View begins with, or it throws. Conditions: as many bytes as the slice says. -/
namespace Go.Proofs.Ytaladlaffglkeaa
open Go.RowKit Go.Lib

/-- Such a subtable in memory: upon the bytes that it was taken of. -/
structure QIs (L B gt : Nat) (bs : List UInt8) (rs : List RP) (S : Nat) (w : World) : Prop where
  is : ∃ (g : Nat) (a : Option Addr) (c : Nat), w.heap[gt]? = some (.cells #[.pointer (some ⟨g, 0, none⟩), .slice (adv a c (num bs 16 4)) (bs.length - num bs 16 4) (c - num bs 16 4)] 177 (0, 0)) ∧ MIs B g bs 1 rs S w ∧ BHas L a bs w ∧ bs.length ≤ c ∧ c ≤ maxLen
  ge : B ≤ gt
theorem QIs.below {L B gt : Nat} {bs : List UInt8} {rs : List RP} {S : Nat} {w w' : World} (h : QIs L B gt bs rs S w) (hb : Below w.heap.size w w') : QIs L B gt bs rs S w' := by
  obtain ⟨g, a, c, h1, h2, h3, h4, h5⟩ := h.is
  exact ⟨⟨g, a, c, (hb.block gt (Array.getElem?_eq_some_iff.1 h1).1).trans h1, h2.below hb, h3.below hb, h4, h5⟩, h.ge⟩
theorem QIs.mono {L B B' gt : Nat} {bs : List UInt8} {rs : List RP} {S : Nat} {w : World} (h : QIs L B gt bs rs S w) (hB : B' ≤ B) : QIs L B' gt bs rs S w := by
  obtain ⟨g, a, c, h1, h2, h3, h4, h5⟩ := h.is
  exact ⟨⟨g, a, c, h1, h2.mono hB, h3, h4, h5⟩, Nat.le_trans hB h.ge⟩
def QTkIs (L : Nat) (bs : List UInt8) (glyphs : Nat) (w : World) (e : Ending) (w' : World) : Prop :=
  ((∃ rs S gt, QOk bs glyphs rs S ∧ e = .returned (.pointer (some ⟨gt, 0, none⟩)) ∧ QIs L w.heap.size gt bs rs S w') ∨ ((∀ rs S, ¬ QOk bs glyphs rs S) ∧ e = .panicked thrown)) ∧ Below w.heap.size w w'
set_option maxRecDepth 100000 in
set_option maxHeartbeats 6400000 in
theorem qtake_any (L : Nat) (a : Option Addr) (n c : Nat) (bs : List UInt8) (glyphs : Nat) (zg : Int) (hzg : zg = (glyphs : Nat)) (w : World) (hh : Has w a (bytesV bs)) (hfar : 0 < bs.length → BHas L a bs w) (hbl : bs.length = n) (hnc : n ≤ c) (hc : c ≤ maxLen) (hg1 : 1 ≤ glyphs) (hg2 : glyphs ≤ 65535) :
    Calls Try.prog 38 #[.agg #[.slice a n c], .int .i64 zg] w (QTkIs L bs glyphs w) := by
  have hAC := allocC
  have hAF := allocF
  subst hzg
  have HH := Lib.hid hh
  have HL := Lib.hid hbl
  have HUB := Lib.hid (fun (z : Int) (hz : ¬ (0 ≤ z ∧ z + 4 ≤ (n : Int))) W => u32_bad a n c z W hz hnc hc)
  have HU := Lib.hid (fun (j : Nat) (z : Int) (hz : z = (j : Nat)) (W : World) (hW : Below w.heap.size w W) (hj : j + 4 ≤ n) => u32_z a n c j z hz bs W (hh.below hW) hbl hj hnc hc)
  have HRS := Lib.hid (fun (j : Nat) (hj : j ≤ n) W => rest_ok a n c j W hj hnc hc)
  have HRB := Lib.hid (fun (j : Nat) (hj : n < j) W => rest_bad a n c (j : Nat) W (.inr (by omega)))
  have HBH := Lib.hid (fun (W : World) (hW : Below w.heap.size w W) (h0 : 0 < bs.length) => (hfar h0).below hW)
  clear hh hbl hfar
  obtain ⟨W, hW⟩ : ∃ W, W = w.alloc (Obj.cells #[.slice a n c] 93) := ⟨_, rfl⟩
  have hbW : Below w.heap.size w W := by rw [hW]; exact balloc (brefl _) _
  have z2 : W.heap[w.heap.size]? = some (.cells #[.slice a n c] 93 (0, 0)) := by rw [hW]; exact heap_new w _ _
  have q2 := cell_of_heap z2 0
  simp only [List.getElem?_toArray, List.getElem?_cons_zero] at q2
  have l2 : w.heap.size < W.heap.size := by rw [hW]; simp
  have HBW := Lib.hid hbW
  have HUW := Lib.hid (fun (j : Nat) (z : Int) (hz : z = (j : Nat)) (V : World) (hV : Below W.heap.size W V) (hj : j + 4 ≤ n) => HU.out j z hz V (HBW.out.trans (hV.mono HBW.out.size)) hj)
  clear z2 hbW
  by_cases hmo : ∃ rs S, MOk bs glyphs 1 rs S
  case neg =>
    have HNO := Lib.hid (show ∀ rs S, ¬ QOk bs glyphs rs S from fun rs S ho => hmo ⟨rs, S, ho.mok⟩)
    have HTB := Lib.hid (fun V (hV : Below W.heap.size W V) => show Calls Try.prog 86 #[.agg #[.slice a n c], .int .i64 (glyphs : Nat), .int .i64 1] V fun e w' => e = .panicked thrown ∧ Below V.heap.size V w' from mtake_bad a n c bs glyphs 1 V (HH.out.below (HBW.out.trans (hV.mono HBW.out.size))) HL.out hnc hc hg1 hg2 (by decide) (fun rs S h => hmo ⟨rs, S, h⟩))
    clear hmo
    go_enter Try.func38, Try.ntmps38
    go_wp2_with fail
    rw [← hW]
    clear hW
    refine wp_region_tree (.step 0 (.step 1 (.step 3 (.step 4 (.step 2 (.step 5 (.step 6 (.step 7 (.step 8 (.step 9 .nil)))))))))) (by kernel_rfl) (by kernel_rfl) (by kernel_rfl) (by kernel_rfl) (by intro _ _ d_ _ _ h_; cases d_ <;> first | exact h_ | (dsimp +zetaDelta only at h_ ⊢; exact h_)) (fun w' => ∃ p : Wld W [], w' = p.val) (wld_start _ _) ?_
    have hG_ := @wldC W
    (refine tree_quiet gtA (by rfl) (by rfl) (fun K_ hK_ => ?_); go_big_quiet_op; refine hK_ _ ?_; clear hK_ K_)
    (refine tree_quiet gtA (by rfl) (by rfl) (fun K_ hK_ => ?_); go_big_quiet_op; refine hK_ _ ?_; clear hK_ K_)
    (refine tree_quiet gtA (by rfl) (by rfl) (fun K_ hK_ => ?_); go_big_quiet_op; refine hK_ _ ?_; clear hK_ K_)
    (refine tree_quiet gtA (by rfl) (by rfl) (fun K_ hK_ => ?_); go_big_quiet_op; refine hK_ _ ?_; clear hK_ K_)
    (refine tree_run gtA (by rfl) (by rfl) (fun K_ hK_ => ?_); have HK_ := Lib.hid hK_; clear hK_; go_wp2_with ((go_at_call 86; (with_reducible refine (HTB.out _ (by exact blw)).mono ?_); rintro e wa ⟨rfl, hba⟩; have hac := bc hba; have haf := bf hba; have haz := hba.size; try simp only [World.size_alloc, World.size_drew] at haz)); exact ⟨rfl, .inr ⟨HNO.out, rfl⟩, HBW.out.trans (Below.mono (w := W) (by exact blw) HBW.out.size)⟩)
  obtain ⟨rs, S, hmo⟩ := hmo
  have HMO := Lib.hid hmo
  have HTM := Lib.hid (fun V (hV : Below W.heap.size W V) => show Calls Try.prog 86 #[.agg #[.slice a n c], .int .i64 (glyphs : Nat), .int .i64 1] V fun e w' => ∃ g, e = .returned (.pointer (some ⟨g, 0, none⟩)) ∧ MIs V.heap.size g bs 1 rs S w' ∧ Below V.heap.size V w' from mtake_ok a n c bs glyphs 1 rs S V (HH.out.below (HBW.out.trans (hV.mono HBW.out.size))) HL.out hnc hc hg1 hg2 (by decide) hmo)
  clear hmo
  have hP16 := num4_lt bs 16
  by_cases h20 : 20 ≤ n
  case neg =>
    have HNO := Lib.hid (show ∀ rs S, ¬ QOk bs glyphs rs S from fun rs S ho => h20 (by have := ho.l20; rw [HL.out] at this; omega))
    have HB1 := Lib.hid (HUB.out 16 (by omega))
    go_enter Try.func38, Try.ntmps38
    go_wp2_with fail
    rw [← hW]
    clear hW
    refine wp_region_tree (.step 0 (.step 1 (.step 3 (.step 4 (.step 2 (.step 5 (.step 6 (.step 7 (.step 8 (.step 9 .nil)))))))))) (by kernel_rfl) (by kernel_rfl) (by kernel_rfl) (by kernel_rfl) (by intro _ _ d_ _ _ h_; cases d_ <;> first | exact h_ | (dsimp +zetaDelta only at h_ ⊢; exact h_)) (fun w' => ∃ p : Wld W [], w' = p.val) (wld_start _ _) ?_
    have hG_ := @wldC W
    (refine tree_quiet gtA (by rfl) (by rfl) (fun K_ hK_ => ?_); go_big_quiet_op; refine hK_ _ ?_; clear hK_ K_)
    (refine tree_quiet gtA (by rfl) (by rfl) (fun K_ hK_ => ?_); go_big_quiet_op; refine hK_ _ ?_; clear hK_ K_)
    (refine tree_quiet gtA (by rfl) (by rfl) (fun K_ hK_ => ?_); go_big_quiet_op; refine hK_ _ ?_; clear hK_ K_)
    (refine tree_quiet gtA (by rfl) (by rfl) (fun K_ hK_ => ?_); go_big_quiet_op; refine hK_ _ ?_; clear hK_ K_)
    (refine tree_run gtA (by rfl) (by rfl) (fun K_ hK_ => ?_); have HK_ := Lib.hid hK_; clear hK_; go_wp2_with (first | (go_at_call 86; (with_reducible refine (HTM.out _ (by exact blw)).mono ?_); rintro e w1 ⟨g, rfl, hM, hb1⟩; clear hM) | (go_at_call 88; (with_reducible refine (HB1.out _).mono ?_); rintro e wa ⟨rfl, hba⟩; have hac := bc hba; have haf := bf hba; have haz := hba.size; try simp only [World.size_alloc, World.size_drew] at haz)); refine HK_.out _ _ (wld_ofA) ?_; clear HK_)
    (refine tree_run gtA (by rfl) (by rfl) (fun K_ hK_ => ?_); have HK_ := Lib.hid hK_; clear hK_; go_wp2_with (first | (go_at_call 86; (with_reducible refine (HTM.out _ (by exact blw)).mono ?_); rintro e w1 ⟨g, rfl, hM, hb1⟩; clear hM) | (go_at_call 88; (with_reducible refine (HB1.out _).mono ?_); rintro e wa ⟨rfl, hba⟩; have hac := bc hba; have haf := bf hba; have haz := hba.size; try simp only [World.size_alloc, World.size_drew] at haz)); exact ⟨rfl, .inr ⟨HNO.out, rfl⟩, HBW.out.trans (Below.mono (w := W) (by exact blw) HBW.out.size)⟩)
  have HU16 := Lib.hid (fun V hV => HUW.out 16 16 rfl V hV h20)
  obtain ⟨P16, hQ16⟩ : ∃ P, P = num bs 16 4 := ⟨_, rfl⟩
  rw [← hQ16] at HU16 hP16
  have HP16 := Lib.hid hQ16
  clear hQ16
  by_cases hf16 : P16 ≤ n
  case neg =>
    have HNO := Lib.hid (show ∀ rs S, ¬ QOk bs glyphs rs S from fun rs S ho => hf16 (by have := ho.at_; rw [HL.out, ← HP16.out] at this; exact this))
    have HB1 := Lib.hid (HRB.out P16 (by omega))
    go_enter Try.func38, Try.ntmps38
    go_wp2_with fail
    rw [← hW]
    clear hW
    refine wp_region_tree (.step 0 (.step 1 (.step 3 (.step 4 (.step 2 (.step 5 (.step 6 (.step 7 (.step 8 (.step 9 .nil)))))))))) (by kernel_rfl) (by kernel_rfl) (by kernel_rfl) (by kernel_rfl) (by intro _ _ d_ _ _ h_; cases d_ <;> first | exact h_ | (dsimp +zetaDelta only at h_ ⊢; exact h_)) (fun w' => ∃ p : Wld W [], w' = p.val) (wld_start _ _) ?_
    have hG_ := @wldC W
    (refine tree_quiet gtA (by rfl) (by rfl) (fun K_ hK_ => ?_); go_big_quiet_op; refine hK_ _ ?_; clear hK_ K_)
    (refine tree_quiet gtA (by rfl) (by rfl) (fun K_ hK_ => ?_); go_big_quiet_op; refine hK_ _ ?_; clear hK_ K_)
    (refine tree_quiet gtA (by rfl) (by rfl) (fun K_ hK_ => ?_); go_big_quiet_op; refine hK_ _ ?_; clear hK_ K_)
    (refine tree_quiet gtA (by rfl) (by rfl) (fun K_ hK_ => ?_); go_big_quiet_op; refine hK_ _ ?_; clear hK_ K_)
    (refine tree_run gtA (by rfl) (by rfl) (fun K_ hK_ => ?_); have HK_ := Lib.hid hK_; clear hK_; go_wp2_with (first | (go_at_call 86; (with_reducible refine (HTM.out _ (by exact blw)).mono ?_); rintro e w1 ⟨g, rfl, hM, hb1⟩; clear hM) | (go_at_call 88; (with_reducible refine (HU16.out _ (by exact blw)).mono ?_); rintro e wa ⟨rfl, hba⟩; have hac := bc hba; have haf := bf hba; have haz := hba.size; try simp only [World.size_alloc, World.size_drew] at haz) | (go_at_call 87; (with_reducible refine (HB1.out _).mono ?_); rintro e wb ⟨rfl, hbb⟩; have hbc := bc hbb; have hbf := bf hbb; have hbz := hbb.size; try simp only [World.size_alloc, World.size_drew] at hbz)); refine HK_.out _ _ (wld_ofA) ?_; clear HK_)
    (refine tree_run gtA (by rfl) (by rfl) (fun K_ hK_ => ?_); have HK_ := Lib.hid hK_; clear hK_; go_wp2_with (first | (go_at_call 86; (with_reducible refine (HTM.out _ (by exact blw)).mono ?_); rintro e w1 ⟨g, rfl, hM, hb1⟩; clear hM) | (go_at_call 88; (with_reducible refine (HU16.out _ (by exact blw)).mono ?_); rintro e wa ⟨rfl, hba⟩; have hac := bc hba; have haf := bf hba; have haz := hba.size; try simp only [World.size_alloc, World.size_drew] at haz) | (go_at_call 87; (with_reducible refine (HB1.out _).mono ?_); rintro e wb ⟨rfl, hbb⟩; have hbc := bc hbb; have hbf := bf hbb; have hbz := hbb.size; try simp only [World.size_alloc, World.size_drew] at hbz)); refine HK_.out _ _ (wld_ofA) ?_; clear HK_)
    (refine tree_run gtA (by rfl) (by rfl) (fun K_ hK_ => ?_); have HK_ := Lib.hid hK_; clear hK_; go_wp2_with (first | (go_at_call 86; (with_reducible refine (HTM.out _ (by exact blw)).mono ?_); rintro e w1 ⟨g, rfl, hM, hb1⟩; clear hM) | (go_at_call 88; (with_reducible refine (HU16.out _ (by exact blw)).mono ?_); rintro e wa ⟨rfl, hba⟩; have hac := bc hba; have haf := bf hba; have haz := hba.size; try simp only [World.size_alloc, World.size_drew] at haz) | (go_at_call 87; (with_reducible refine (HB1.out _).mono ?_); rintro e wb ⟨rfl, hbb⟩; have hbc := bc hbb; have hbf := bf hbb; have hbz := hbb.size; try simp only [World.size_alloc, World.size_drew] at hbz)); exact ⟨rfl, .inr ⟨HNO.out, rfl⟩, HBW.out.trans (Below.mono (w := W) (by exact blw) HBW.out.size)⟩)
  have HR16 := Lib.hid (HRS.out P16 hf16)
  go_enter Try.func38, Try.ntmps38
  go_wp2_with fail
  rw [← hW]
  clear hW
  refine wp_region_tree (.step 0 (.step 1 (.step 3 (.step 4 (.step 2 (.step 5 (.step 6 (.step 7 (.step 8 (.step 9 .nil)))))))))) (by kernel_rfl) (by kernel_rfl) (by kernel_rfl) (by kernel_rfl) (by intro _ _ d_ _ _ h_; cases d_ <;> first | exact h_ | (dsimp +zetaDelta only at h_ ⊢; exact h_)) (fun w' => ∃ p : Wld W [], w' = p.val) (wld_start _ _) ?_
  have hG_ := @wldC W
  (refine tree_quiet gtA (by rfl) (by rfl) (fun K_ hK_ => ?_); go_big_quiet_op; refine hK_ _ ?_; clear hK_ K_)
  (refine tree_quiet gtA (by rfl) (by rfl) (fun K_ hK_ => ?_); go_big_quiet_op; refine hK_ _ ?_; clear hK_ K_)
  (refine tree_quiet gtA (by rfl) (by rfl) (fun K_ hK_ => ?_); go_big_quiet_op; refine hK_ _ ?_; clear hK_ K_)
  (refine tree_quiet gtA (by rfl) (by rfl) (fun K_ hK_ => ?_); go_big_quiet_op; refine hK_ _ ?_; clear hK_ K_)
  (refine tree_run gtA (by rfl) (by rfl) (fun K_ hK_ => ?_); have HK_ := Lib.hid hK_; clear hK_; go_wp2_with (first | (go_at_call 86; (with_reducible refine (HTM.out _ (by exact blw)).mono ?_); rintro e w1 ⟨g, rfl, hM, hb1⟩; have HM1 := Lib.hid hM; have h1z := hb1.size; clear hM) | (go_at_call 88; (with_reducible refine (HU16.out _ (by exact blw)).mono ?_); rintro e wa ⟨rfl, hba⟩; have hac := bc hba; have haf := bf hba; have haz := hba.size; try simp only [World.size_alloc, World.size_drew] at haz) | (go_at_call 87; (with_reducible refine (HR16.out _).mono ?_); rintro e wb ⟨rfl, hbb⟩; have hbc := bc hbb; have hbf := bf hbb; have hbz := hbb.size; try simp only [World.size_alloc, World.size_drew] at hbz)); refine HK_.out _ _ (wld_ofA) ?_; clear HK_)
  (refine tree_run gtA (by rfl) (by rfl) (fun K_ hK_ => ?_); have HK_ := Lib.hid hK_; clear hK_; go_wp2_with (first | (go_at_call 86; (with_reducible refine (HTM.out _ (by exact blw)).mono ?_); rintro e w1 ⟨g, rfl, hM, hb1⟩; have HM1 := Lib.hid hM; have h1z := hb1.size; clear hM) | (go_at_call 88; (with_reducible refine (HU16.out _ (by exact blw)).mono ?_); rintro e wa ⟨rfl, hba⟩; have hac := bc hba; have haf := bf hba; have haz := hba.size; try simp only [World.size_alloc, World.size_drew] at haz) | (go_at_call 87; (with_reducible refine (HR16.out _).mono ?_); rintro e wb ⟨rfl, hbb⟩; have hbc := bc hbb; have hbf := bf hbb; have hbz := hbb.size; try simp only [World.size_alloc, World.size_drew] at hbz)); refine HK_.out _ _ (wld_ofA) ?_; clear HK_)
  (refine tree_run gtA (by rfl) (by rfl) (fun K_ hK_ => ?_); have HK_ := Lib.hid hK_; clear hK_; go_wp2_with (first | (go_at_call 86; (with_reducible refine (HTM.out _ (by exact blw)).mono ?_); rintro e w1 ⟨g, rfl, hM, hb1⟩; have HM1 := Lib.hid hM; have h1z := hb1.size; clear hM) | (go_at_call 88; (with_reducible refine (HU16.out _ (by exact blw)).mono ?_); rintro e wa ⟨rfl, hba⟩; have hac := bc hba; have haf := bf hba; have haz := hba.size; try simp only [World.size_alloc, World.size_drew] at haz) | (go_at_call 87; (with_reducible refine (HR16.out _).mono ?_); rintro e wb ⟨rfl, hbb⟩; have hbc := bc hbb; have hbf := bf hbb; have hbz := hbb.size; try simp only [World.size_alloc, World.size_drew] at hbz)); refine HK_.out _ _ (wld_ofA) ?_; clear HK_)
  (refine tree_quiet gtA (by rfl) (by rfl) (fun K_ hK_ => ?_); go_big_quiet_op; refine hK_ _ ?_; clear hK_ K_)
  (refine tree_run gtA (by rfl) (by rfl) (fun K_ hK_ => ?_); have HK_ := Lib.hid hK_; clear hK_; go_wp2_with (first | (go_at_call 86; (with_reducible refine (HTM.out _ (by exact blw)).mono ?_); rintro e w1 ⟨g, rfl, hM, hb1⟩; have HM1 := Lib.hid hM; have h1z := hb1.size; clear hM) | (go_at_call 88; (with_reducible refine (HU16.out _ (by exact blw)).mono ?_); rintro e wa ⟨rfl, hba⟩; have hac := bc hba; have haf := bf hba; have haz := hba.size; try simp only [World.size_alloc, World.size_drew] at haz) | (go_at_call 87; (with_reducible refine (HR16.out _).mono ?_); rintro e wb ⟨rfl, hbb⟩; have hbc := bc hbb; have hbf := bf hbb; have hbz := hbb.size; try simp only [World.size_alloc, World.size_drew] at hbz)); refine HK_.out _ _ (wld_ofA) ?_; clear HK_)
  (refine tree_quiet gtA (by rfl) (by rfl) (fun K_ hK_ => ?_); go_big_quiet_op; refine hK_ _ ?_; clear hK_ K_)
  refine tree_nil ?_
  clear hG_
  obtain ⟨V, hV⟩ : ∃ V, V = wb.alloc (Obj.cells #[Value.pointer (some ⟨g, 0, none⟩), Value.slice (adv a c P16) (n - P16) (c - P16)] 177) := ⟨_, rfl⟩
  have hbV : Below W.heap.size W V := by rw [hV]; exact blw
  have hgf : W.heap.size ≤ wb.heap.size := (show Below W.heap.size W wb from by exact blw).size
  have h6 : V.heap[wb.heap.size]? = some (.cells #[.pointer (some ⟨g, 0, none⟩), .slice (adv a c P16) (n - P16) (c - P16)] 177 (0, 0)) := by rw [hV, heap_push, if_pos rfl]
  have hM6 : MIs W.heap.size g bs 1 rs S V := by rw [hV]; exact (HM1.out.below (by exact blw)).mono (by first | omega | exact Nat.le_refl _ | simp)
  rw [← hV]
  obtain ⟨g6, hg6⟩ : ∃ g6, g6 = wb.heap.size := ⟨_, rfl⟩
  rw [← hg6] at h6 hgf ⊢
  have HBV := Lib.hid (HBW.out.trans (hbV.mono HBW.out.size))
  have hbh := HBH.out V HBV.out (by rw [HL.out]; omega)
  have HN := Lib.hid (needv_any W.heap.size g6 g bs rs S _ (n - P16) (c - P16) (bs.drop P16) V h6 hM6 (hbh.adv c P16 (by rw [HL.out]; exact hnc)).has (by rw [List.length_drop, HL.out]) (by omega) (Nat.le_trans (Nat.sub_le _ _) hc))
  have H6 := Lib.hid h6
  have HM6 := Lib.hid hM6
  have HBHV := Lib.hid hbh
  have hwW := HBW.out.size
  clear hV hbV h6 hM6 hbh hg6
  go_wp2_with fail
  refine HN.out.mono ?_
  rintro e w9 ⟨(⟨hgood, rfl⟩ | ⟨hbad, rfl⟩), hb9⟩
  case inr =>
    have HNO := Lib.hid (show ∀ rs S, ¬ QOk bs glyphs rs S from fun rs' S' ho => hbad (by
      obtain ⟨rfl, rfl⟩ := ho.mok.det HMO.out
      have := ho.good
      rw [← HP16.out] at this
      exact this))
    have HB9 := Lib.hid (HBV.out.trans (hb9.mono HBV.out.size))
    clear hbad hb9
    go_wp2_with fail
    exact ⟨rfl, .inr ⟨HNO.out, rfl⟩, HB9.out⟩
  have HOK := Lib.hid (show QOk bs glyphs rs S from QOk.of HMO.out (by rw [HL.out]; exact h20) (by rw [HL.out, ← HP16.out]; exact hf16) (by rw [← HP16.out]; exact hgood))
  have HB9 := Lib.hid (HBV.out.trans (hb9.mono HBV.out.size))
  have HJ := Lib.hid (show QIs L w.heap.size g6 bs rs S w9 from ⟨⟨g, a, c, by rw [← HP16.out, HL.out]; exact (hb9.block _ (Array.getElem?_eq_some_iff.1 H6.out).1).trans H6.out, (HM6.out.below hb9).mono hwW, HBHV.out.below hb9, by rw [HL.out]; exact hnc, hc⟩, by omega⟩)
  clear hgood hb9
  go_wp2_with fail
  go_ret
  exact ⟨.inl ⟨rs, S, g6, HOK.out, rfl, HJ.out⟩, HB9.out⟩
theorem qtake_ok (L : Nat) (a : Option Addr) (n c : Nat) (bs : List UInt8) (glyphs : Nat) (rs : List RP) (S : Nat) (w : World) (hh : BHas L a bs w) (hbl : bs.length = n) (hnc : n ≤ c) (hc : c ≤ maxLen) (hg1 : 1 ≤ glyphs) (hg2 : glyphs ≤ 65535) (hok : QOk bs glyphs rs S) :
    Calls Try.prog 38 #[.agg #[.slice a n c], .int .i64 (glyphs : Nat)] w fun e w' => ∃ g, e = .returned (.pointer (some ⟨g, 0, none⟩)) ∧ QIs L w.heap.size g bs rs S w' ∧ Below w.heap.size w w' := by
  refine (qtake_any L a n c bs glyphs _ rfl w hh.has (fun _ => hh) hbl hnc hc hg1 hg2).mono ?_
  rintro e w' ⟨(⟨rs', S', g, hr, he, ht⟩ | ⟨hno, _⟩), hb⟩
  · obtain ⟨rfl, rfl⟩ := hok.det hr
    exact ⟨g, he, ht, hb⟩
  · exact absurd hok (hno rs S)
theorem qtake_bad (L : Nat) (a : Option Addr) (n c : Nat) (bs : List UInt8) (glyphs : Nat) (w : World) (hh : Has w a (bytesV bs)) (hfar : 0 < bs.length → BHas L a bs w) (hbl : bs.length = n) (hnc : n ≤ c) (hc : c ≤ maxLen) (hg1 : 1 ≤ glyphs) (hg2 : glyphs ≤ 65535) (hno : ∀ rs S, ¬ QOk bs glyphs rs S) :
    Calls Try.prog 38 #[.agg #[.slice a n c], .int .i64 (glyphs : Nat)] w fun e w' => e = .panicked thrown ∧ Below w.heap.size w w' := by
  refine (qtake_any L a n c bs glyphs _ rfl w hh hfar hbl hnc hc hg1 hg2).mono ?_
  rintro e w' ⟨(⟨rs', S', g, hr, _⟩ | ⟨_, he⟩), hb⟩
  · exact absurd hr (hno rs' S')
  · exact ⟨he, hb⟩
end Go.Proofs.Ytaladlaffglkeaa
end
section

/- stack.Read: such a subtable that bytes begin with, upon bytes of its own. Conditions: as many bytes as the slice says, no more than a hundred million; glyphs as an int. -/
namespace Go.Proofs.Ytaladlaffglkeaa
open Go.RowKit Go.Lib

theorem QIs.setOther {L B gt g3 : Nat} {bs : List UInt8} {rs : List RP} {S : Nat} {w : World} {cs : Array Value} {fz : Nat × Nat} (h : QIs L B gt bs rs S w) (hw : w.heap[g3]? = some (.cells cs 73 fz)) (hL : L ≤ g3) (v : Value) : QIs L B gt bs rs S (w.setCell ⟨g3, 0, none⟩ v) := by
  obtain ⟨g, a, c, h1, h2, h3, h4, h5⟩ := h.is
  refine ⟨⟨g, a, c, ?_, h2.setOther (o := 0) hw (by refine ⟨fun k h => ?_, fun k h => ?_, fun k h => ?_, fun k h => ?_, fun k h => ?_, fun k h => ?_, fun k h => ?_⟩ <;> · simp at h) v, h3.setOther hw hL (by decide) v, h4, h5⟩, h.ge⟩
  refine (set_heap_other _ ?_).trans h1
  rintro rfl
  rw [h1] at hw
  injection hw with hw
  injection hw with _ h4 _
  exact absurd h4 (by decide)
def QRead1R (L B : Nat) (w : World) (g3 : Nat) (bs : List UInt8) (glyphs : Nat) (ok : Bool) (w' : World) : Prop :=
  (ok = true ∧ ∃ rs S g, QOk bs glyphs rs S ∧ w'.heap[g3]? = some (.cells #[.pointer (some ⟨g, 0, none⟩)] 73 (0, 0)) ∧ QIs L w.heap.size g bs rs S w' ∧ Below B w w' ∧ w.heap.size ≤ w'.heap.size) ∨
  (ok = false ∧ (∀ rs S, ¬ QOk bs glyphs rs S) ∧ Below w.heap.size w w')
theorem enter_qread1 (args : Array Value) (w : World) : (callFunc 78 args).run Try.prog w = .ok (.enter 78 args) w := by kernel_rfl
set_option maxRecDepth 100000 in
set_option maxHeartbeats 1600000 in
theorem qread1_any (L B : Nat) (a : Option Addr) (n c : Nat) (bs : List UInt8) (glyphs : Nat) (g0 g1 g3 : Nat) (x : Value) (w : World) (h : BHas L a bs w) (hl : bs.length = n) (hn : n ≤ c) (hc : c ≤ maxLen) (hg1 : 1 ≤ glyphs) (hg2 : glyphs ≤ 65535) (hB : B ≤ g3) (hL : L ≤ g3)
    (c0 : w.cell? ⟨g0, 0, none⟩ = some (.slice a n c)) (c1 : w.cell? ⟨g1, 0, none⟩ = some (.int .i64 (glyphs : Nat)))
    (c3 : w.heap[g3]? = some (.cells #[x] 73 (0, 0))) :
    Calls Try.prog 78 #[.pointer (some ⟨g0, 0, none⟩), .pointer (some ⟨g1, 0, none⟩), .pointer (some ⟨g3, 0, none⟩)] w
      fun e w' => (e = .returned (.tuple #[]) ∧ QRead1R L B w g3 bs glyphs true w') ∨ (e = .panicked thrown ∧ QRead1R L B w g3 bs glyphs false w') := by
  have HH := Lib.hid h
  have HL := Lib.hid hl
  have C3 := Lib.hid c3
  have l0 := cell_lt c0
  have l1 := cell_lt c1
  have l3 := (Array.getElem?_eq_some_iff.1 c3).1
  simp only at l0 l1
  clear h hl c3
  by_cases hok : ∃ rs S, QOk bs glyphs rs S
  · obtain ⟨rs, S, hok⟩ := hok
    have HOK := Lib.hid hok
    have HT := Lib.hid (fun W hw => qtake_ok L a n c bs glyphs rs S W hw HL.out hn hc hg1 hg2 hok)
    clear hok
    go_enter Try.func78, Try.ntmps78
    go_wp2_with (go_at_call 38; (with_reducible refine (HT.out _ (HH.out.below (by exact blw))).mono ?_); rintro e wb ⟨g, rfl, hown, hbb⟩; have hbz := hbb.size; have HOW := Lib.hid hown; have hB4 : Below w.heap.size w wb := blw; have c4b := (hB4.block g3 l3).trans C3.out; have q4 := cell_of_heap c4b 0; have f4 := froz_of_heap c4b 0; have HC4 := Lib.hid c4b; have HBB := Lib.hid hB4; clear hown hbb hB4 c4b)
    go_end0
    refine .inl ⟨rfl, .inl ⟨rfl, rs, S, g, HOK.out, set_heap_at _ HC4.out, ?_, (HBB.out.mono (Nat.le_of_lt (by omega))).setCell (p := ⟨g3, 0, none⟩) hB _, by have := HBB.out.size; simpa using this⟩⟩
    exact (HOW.out.setOther HC4.out hL (.pointer (some ⟨g, 0, none⟩))).mono (by omega)
  · have HNO := Lib.hid (show ∀ rs S, ¬ QOk bs glyphs rs S from fun rs S ho => hok ⟨rs, S, ho⟩)
    have HT := Lib.hid (fun W (hw : BHas L a bs W) => qtake_bad L a n c bs glyphs W hw.has (fun _ => hw) HL.out hn hc hg1 hg2 HNO.out)
    clear hok
    go_enter Try.func78, Try.ntmps78
    go_wp2_with ((go_at_call 38; (with_reducible refine (HT.out _ (HH.out.below (by exact blw))).mono ?_); rintro e wb ⟨rfl, hbb⟩; have hbc := bc hbb; have hbf := bf hbb; have hbz := hbb.size; try simp only [World.size_alloc, World.size_drew] at hbz))
    exact ⟨rfl, .inr ⟨rfl, .inr ⟨rfl, HNO.out, by exact blw⟩⟩⟩
def QRdIs (bs : List UInt8) (zg : Int) (w : World) (e : Ending) (w' : World) : Prop :=
  (((zg < 1 ∨ 65535 < zg) ∧ e = .returned (.tuple #[.pointer none, .int .i64 1])) ∨
   (1 ≤ zg ∧ zg ≤ 65535 ∧ (∀ rs S, ¬ QOk bs zg.toNat rs S) ∧ e = .returned (.tuple #[.pointer none, .int .i64 2])) ∨
   (1 ≤ zg ∧ zg ≤ 65535 ∧ ∃ rs S g, QOk bs zg.toNat rs S ∧ e = .returned (.tuple #[.pointer (some ⟨g, 0, none⟩), .int .i64 0]) ∧ QIs 0 w.heap.size g bs rs S w')) ∧ Below w.heap.size w w'
set_option maxRecDepth 100000 in
set_option maxHeartbeats 3200000 in
theorem qread_any (a : Option Addr) (n c : Nat) (bs : List UInt8) (zg : Int) (w : World) (h : Has w a (bytesV bs)) (hl : bs.length = n) (hsz : n ≤ 100000000) (hzg : -9223372036854775808 ≤ zg ∧ zg ≤ 9223372036854775807) :
    Calls Try.prog 29 #[.slice a n c, .int .i64 zg] w (QRdIs bs zg w) := by
  have HH := Lib.hid h
  have HL := Lib.hid hl
  clear h hl
  have hAC := allocC
  have hAF := allocF
  have hmf : ∀ (fn : Fn) (first cap : Array Value) (w : World), (Instr.makeFunc fn first cap).run Try.prog w = .ok (.func fn first cap) w := fun _ _ _ _ => rfl
  obtain ⟨hn1, hn2⟩ := hzg
  by_cases hb1 : zg < 1
  · go_enter Try.func29, Try.ntmps29
    go_wp2_with fail
    refine bodyPost_ret (v := .tuple #[.pointer none, .int .i64 1]) (by simp [results, Try.results29, go_sem, hAC, hAF]) rfl ?_
    exact ⟨.inl ⟨.inl hb1, rfl⟩, blw⟩
  by_cases hb2 : 65535 < zg
  · go_enter Try.func29, Try.ntmps29
    go_wp2_with fail
    refine bodyPost_ret (v := .tuple #[.pointer none, .int .i64 1]) (by simp [results, Try.results29, go_sem, hAC, hAF]) rfl ?_
    exact ⟨.inl ⟨.inr hb2, rfl⟩, blw⟩
  obtain ⟨G, rfl⟩ : ∃ G : Nat, zg = G := ⟨zg.toNat, by omega⟩
  have HBC := Lib.hid (fun W (hW : Below w.heap.size w W) => bclone_any a n c bs W (HH.out.below hW) HL.out hsz)
  have HOF := Lib.hid (fun a c W => of_any a n c W)
  go_enter Try.func29, Try.ntmps29
  go_wp2_with (first | (go_at_call 49; (with_reducible refine (HBC.out _ (by exact blw)).mono ?_); rintro e wa ⟨a', c', rfl, hown, hc1, hc2, hba⟩; have HOW := Lib.hid hown; have HBA := Lib.hid hba; have hza := hba.size; clear hown hba) | (go_at_call 39; (with_reducible refine (HOF.out _ _ _).mono ?_); rintro e wb ⟨rfl, hbb⟩; have HBB := Lib.hid hbb; have hzb := hbb.size; clear hbb))
  obtain ⟨A, hA⟩ : ∃ A, A = (w.alloc (Obj.cells #[.int .i64 (G : Nat)] 3)).alloc (Obj.cells #[.pointer none] 73) := ⟨_, rfl⟩
  have hbA : Below w.heap.size w A := by rw [hA]; exact balloc (balloc (brefl _) _) _
  have hzA : A.heap.size = w.heap.size + 2 := by rw [hA]; simp
  have hba := HBA.out
  have hbb := HBB.out
  rw [← hA] at hba
  have z1 : A.heap[w.heap.size]? = some (.cells #[.int .i64 (G : Nat)] 3 (0, 0)) := by rw [hA, heap_push, if_neg (by simp), heap_push, if_pos rfl]
  have z3 : A.heap[w.heap.size + 1]? = some (.cells #[.pointer none] 73 (0, 0)) := by rw [hA, heap_push, if_pos (by simp)]
  have hzw := hba.size
  have hzx := hbb.size
  obtain ⟨W, hW⟩ : ∃ W, W = wb.alloc (Obj.cells #[.slice a' n c'] 93) := ⟨_, rfl⟩
  have hbW : Below wb.heap.size wb W := by rw [hW]; exact balloc (brefl _) _
  have hAW : Below A.heap.size A W := bthen (bthen hba hbb) hbW
  have hb : Below w.heap.size w W := hbA.trans (hAW.mono hbA.size)
  have c0 : W.cell? ⟨wb.heap.size, 0, none⟩ = some (.slice a' n c') := by rw [hW]; exact cell_of_heap (heap_new wb (.slice a' n c') _) 0
  have c1 : W.cell? ⟨w.heap.size, 0, none⟩ = some (.int .i64 (G : Nat)) := cell_of_heap ((hAW.block _ (by omega)).trans z1) 0
  have c3 : W.heap[w.heap.size + 1]? = some (.cells #[.pointer none] 73 (0, 0)) := (hAW.block _ (by omega)).trans z3
  have hBH : BHas 0 a' bs W := ((BHas.of_owns HOW.out).below hbb).below hbW
  have hWz : w.heap.size + 2 ≤ W.heap.size := by have := hAW.size; omega
  rw [← hW]
  have HBH := Lib.hid hBH
  clear hW hA
  have HB := Lib.hid hb
  have HT := Lib.hid (try_any 78 _ W (QRead1R 0 w.heap.size W (w.heap.size + 1) bs G) (enter_qread1 _)
    (qread1_any 0 w.heap.size a' n c' bs G _ _ _ _ _ HBH.out HL.out hc1 hc2 (by omega) (by omega) (by omega) (Nat.zero_le _) c0 c1 c3))
  have C3 := Lib.hid c3
  clear c0 c1 c3 hb hBH z1 z3 hba hbb hbA hbW hAW hzA HBC HOF HBA HBB HOW
  refine HT.out.mono ?_
  rintro r w2 ⟨ok, rfl, (⟨rfl, rs, S, g, hok, hG, htb, hb2, hz2⟩ | ⟨rfl, hno, hb2⟩)⟩
  case inr =>
    have HNO := Lib.hid hno
    have HB2 := Lib.hid (HB.out.trans (hb2.mono HB.out.size))
    have q3 := cell_of_heap ((hb2.block (w.heap.size + 1) (by omega)).trans C3.out) 0
    have qf := fun o => froz_of_heap ((hb2.block (w.heap.size + 1) (by omega)).trans C3.out) o
    simp only [List.getElem?_toArray, List.getElem?_cons_zero] at q3
    have hl3 := cell_lt q3
    simp only at hl3
    clear hno hb2 HT
    go_wp2_with fail
    refine bodyPost_ret (v := .tuple #[.pointer none, .int .i64 2]) (by simp [results, Try.results29, go_sem, q3, qf]) rfl ?_
    exact ⟨.inr (.inl ⟨by omega, by omega, HNO.out, rfl⟩), HB2.out.setCell (p := ⟨w.heap.size + 1, 0, none⟩) (by show w.heap.size ≤ w.heap.size + 1; omega) _⟩
  have HOK := Lib.hid hok
  have HB2 := Lib.hid (HB.out.trans hb2)
  have HTB := Lib.hid ((htb.setOther hG (Nat.zero_le _) (.pointer (some ⟨g, 0, none⟩))).mono (show w.heap.size ≤ W.heap.size by omega))
  have q10 := cell_of_heap hG 0
  have qf := fun o => froz_of_heap hG o
  simp only [List.getElem?_toArray, List.getElem?_cons_zero] at q10
  have hgl := (Array.getElem?_eq_some_iff.1 hG).1
  clear hok hb2 hG htb HT hz2
  go_wp2_with fail
  refine bodyPost_ret (v := .tuple #[.pointer (some ⟨g, 0, none⟩), .int .i64 0]) (by simp [results, Try.results29, go_sem, q10, qf]) rfl ?_
  exact ⟨.inr (.inr ⟨by omega, by omega, rs, S, g, HOK.out, rfl, HTB.out⟩), HB2.out.setCell (p := ⟨w.heap.size + 1, 0, none⟩) (by show w.heap.size ≤ w.heap.size + 1; omega) _⟩
theorem qread_some (a : Option Addr) (n c : Nat) (bs : List UInt8) (glyphs : Nat) (zg : Int) (hzg : zg = (glyphs : Nat)) (rs : List RP) (S : Nat) (w : World) (h : Has w a (bytesV bs)) (hl : bs.length = n) (hsz : n ≤ 100000000) (hg1 : 1 ≤ glyphs) (hg2 : glyphs ≤ 65535) (hok : QOk bs glyphs rs S) :
    Calls Try.prog 29 #[.slice a n c, .int .i64 zg] w fun e w' => ∃ g, e = .returned (.tuple #[.pointer (some ⟨g, 0, none⟩), .int .i64 0]) ∧ QIs 0 w.heap.size g bs rs S w' ∧ Below w.heap.size w w' := by
  subst hzg
  refine (qread_any a n c bs _ w h hl hsz (by omega)).mono ?_
  rintro e w' ⟨(⟨hb, _⟩ | ⟨_, _, hno, _⟩ | ⟨_, _, rs', S', g, hr, he, ht⟩), hb'⟩
  · omega
  · exact absurd hok (hno rs S)
  · obtain ⟨rfl, rfl⟩ := hok.det hr
    exact ⟨g, he, ht, hb'⟩
end Go.Proofs.Ytaladlaffglkeaa
end
section

/- stack: places that are kept: push, pop, clear. Conditions: up to eight of them in memory. -/
namespace Go.Proofs.Ytaladlaffglkeaa
open Go.RowKit Go.Lib

def kcells (arr : List Int) (n : Nat) : List Value := arr.map (Value.int .i64) ++ [.int .i64 (n : Nat)]
/-- Places that are kept, the last one at the head. -/
def KSt (g : Nat) (ks : List Nat) (w : World) : Prop := ∃ arr : List Int, arr.length = 8 ∧ ks.length ≤ 8 ∧ arr.take ks.length = ks.reverse.map (fun (k : Nat) => (k : Int)) ∧ w.heap[g]? = some (.cells (kcells arr ks.length).toArray 175 (0, 0))
theorem kcells_n {arr : List Int} (h : arr.length = 8) (n : Nat) : (kcells arr n)[8]? = some (.int .i64 (n : Nat)) := by
  rw [kcells, List.getElem?_append_right (by simp [h])]
  simp [h]
theorem kcells_at {arr : List Int} (h : arr.length = 8) (n : Nat) {j : Nat} (hj : j < 8) : ∃ z, arr[j]? = some z ∧ (kcells arr n)[j]? = some (.int .i64 z) := by
  obtain ⟨z, hz⟩ : ∃ z, arr[j]? = some z := ⟨_, List.getElem?_eq_getElem (by omega)⟩
  refine ⟨z, hz, ?_⟩
  rw [kcells, List.getElem?_append_left (by simp [h]; exact hj), List.getElem?_map, hz]
  rfl
theorem kcells_set {arr : List Int} (h : arr.length = 8) (n : Nat) {j : Nat} (hj : j < 8) (z : Int) : (kcells arr n).set j (.int .i64 z) = kcells (arr.set j z) n := by
  rw [kcells, List.set_append_left _ _ (by simp [h]; exact hj), ← List.map_set]
  rfl
theorem kcells_setn {arr : List Int} (h : arr.length = 8) (n m : Nat) : (kcells arr n).set 8 (.int .i64 (m : Nat)) = kcells arr m := by
  rw [kcells, List.set_append_right _ _ (by simp [h])]
  simp [h, kcells]
theorem KSt.below {g : Nat} {ks : List Nat} {w w' : World} (h : KSt g ks w) (hb : Below w.heap.size w w') : KSt g ks w' := by
  obtain ⟨arr, h1, h2, h3, h4⟩ := h
  exact ⟨arr, h1, h2, h3, (hb.block g (Array.getElem?_eq_some_iff.1 h4).1).trans h4⟩
/-- What one store of it may change. -/
def ownK1 (g k t : Nat) : Prop := k = g ∧ t = 175
theorem heap_cell {w : World} {g : Nat} {xs : List Value} {t : TypeId} {fz : Nat × Nat} (h : w.heap[g]? = some (.cells xs.toArray t fz)) (o : Nat) : w.cell? ⟨g, o, none⟩ = xs[o]? := by
  have := cell_of_heap h o
  rw [this]
  simp
theorem heap_set {w : World} {g o : Nat} {xs : List Value} {t : TypeId} {fz : Nat × Nat} (v : Value) (h : w.heap[g]? = some (.cells xs.toArray t fz)) : (w.setCell ⟨g, o, none⟩ v).heap[g]? = some (.cells (xs.set o v).toArray t fz) := by
  have := set_heap_at (o := o) v h
  rw [this]
  simp
set_option maxHeartbeats 1600000 in
theorem kclear_any (B g : Nat) (ks : List Nat) (w : World) (h : KSt g ks w) (hB : B ≤ g) :
    Calls Try.prog 81 #[.pointer (some ⟨g, 0, none⟩)] w fun e w' => e = .returned (.tuple #[]) ∧ KSt g [] w' ∧ KeepC B (ownK1 g) w w' := by
  obtain ⟨arr, h1, h2, h3, h4⟩ := h
  have q8 := (heap_cell h4 8).trans (kcells_n h1 _)
  have f8 := fun o => froz_of_heap h4 o
  have l8 := (Array.getElem?_eq_some_iff.1 h4).1
  have H4 := Lib.hid h4
  clear h4
  go_enter Try.func81, Try.ntmps81
  go_wp2_with fail
  go_end0
  refine ⟨rfl, ⟨arr, h1, Nat.zero_le _, by simp, ?_⟩, (KeepC.refl _ _ w).set hB H4.out ⟨rfl, rfl⟩ _⟩
  have := heap_set (o := 8) (.int .i64 ((0 : Nat) : Int)) H4.out
  rw [kcells_setn h1] at this
  exact this
set_option maxHeartbeats 1600000 in
theorem kpop_none (g : Nat) (w : World) (h : KSt g [] w) :
    Calls Try.prog 129 #[.pointer (some ⟨g, 0, none⟩)] w fun e w' => e = .returned (.tuple #[.int .i64 0, .bool false]) ∧ w = w' := by
  obtain ⟨arr, h1, h2, h3, h4⟩ := h
  have q8 := (heap_cell h4 8).trans (kcells_n h1 _)
  have f8 := fun o => froz_of_heap h4 o
  have l8 := (Array.getElem?_eq_some_iff.1 h4).1
  rw [show (([] : List Nat).length : Int) = 0 from rfl] at q8
  clear h4
  go_enter Try.func129, Try.ntmps129
  go_wp2_with fail
  refine bodyPost_ret (v := .tuple #[.int .i64 0, .bool false]) (by simp [results, Try.results129, go_sem]) rfl ?_
  exact ⟨rfl, rfl⟩
set_option maxHeartbeats 1600000 in
theorem kpop_any (B g : Nat) (i : Nat) (ks : List Nat) (w : World) (h : KSt g (i :: ks) w) (hB : B ≤ g) :
    Calls Try.prog 129 #[.pointer (some ⟨g, 0, none⟩)] w fun e w' => e = .returned (.tuple #[.int .i64 (i : Nat), .bool true]) ∧ KSt g ks w' ∧ KeepC B (ownK1 g) w w' := by
  obtain ⟨arr, h1, h2, h3, h4⟩ := h
  rw [List.length_cons] at h2 h3 h4
  have q8 := (heap_cell h4 8).trans (kcells_n h1 _)
  have f8 := fun o => froz_of_heap h4 o
  have l8 := (Array.getElem?_eq_some_iff.1 h4).1
  have h5 := heap_set (o := 8) (.int .i64 (ks.length : Nat)) h4
  rw [kcells_setn h1] at h5
  have hlast : arr[ks.length]? = some (i : Int) := by
    have : (arr.take (ks.length + 1))[ks.length]? = some (i : Int) := by
      rw [h3]
      simp
    rw [List.getElem?_take, if_pos (by omega)] at this
    exact this
  have e1 : (w.setCell ⟨g, 8, none⟩ (.int .i64 (ks.length : Nat))).cell? ⟨g, ks.length, none⟩ = some (.int .i64 (i : Nat)) := by
    obtain ⟨z, hz, hc⟩ := kcells_at h1 ks.length (j := ks.length) (by omega)
    rw [hlast] at hz
    cases hz
    exact (heap_cell h5 _).trans hc
  have e8 := (heap_cell h5 8).trans (kcells_n h1 _)
  have l5 := (Array.getElem?_eq_some_iff.1 h5).1
  have d0 : ((ks.length + 1 : Nat) : Int) - 1 = (ks.length : Nat) := by omega
  have dz : ((((ks.length + 1 : Nat) : Int)) == 0) = false := by simp; omega
  have H4 := Lib.hid h4
  have H5 := Lib.hid h5
  have H3 := Lib.hid h3
  clear h4 h5 h3 hlast
  obtain ⟨n, hn⟩ : ∃ n, n = ks.length := ⟨_, rfl⟩
  rw [← hn] at q8 e1 e8 l5 d0 dz h2
  have HN := Lib.hid hn
  clear hn
  go_enter Try.func129, Try.ntmps129
  go_wp2_with fail
  obtain ⟨W, hW⟩ : ∃ W, W = w.setCell ⟨g, 8, none⟩ (.int .i64 (n : Nat)) := ⟨_, rfl⟩
  rw [← hW] at e1 e8 l5 ⊢
  have HW := Lib.hid hW
  clear q8 f8 l8 hW
  refine wp_region_tree (.step 0 (.step 1 (.step 2 (.step 3 (.step 4 (.step 5 (.step 6 (.step 7 (.step 8 (.step 9 (.step 10 .nil))))))))))) (by kernel_rfl) (by kernel_rfl) (by kernel_rfl) (by kernel_rfl) (by intro _ _ d_ _ _ h_; cases d_ <;> first | exact h_ | (dsimp +zetaDelta only at h_ ⊢; exact h_)) (fun w' => ∃ p : Wld W [], w' = p.val) (wld_start _ _) ?_
  have hG_ := @wldC W
  (refine tree_quiet gtA (by rfl) (by rfl) (fun K_ hK_ => ?_); go_big_quiet_op; refine hK_ _ ?_; clear hK_ K_)
  (refine tree_quiet gtA (by rfl) (by rfl) (fun K_ hK_ => ?_); go_big_quiet_op; refine hK_ _ ?_; clear hK_ K_)
  (refine tree_quiet gtA (by rfl) (by rfl) (fun K_ hK_ => ?_); go_big_quiet_op; refine hK_ _ ?_; clear hK_ K_)
  (refine tree_quiet gtA (by rfl) (by rfl) (fun K_ hK_ => ?_); go_big_quiet_op; refine hK_ _ ?_; clear hK_ K_)
  (refine tree_quiet gtA (by rfl) (by rfl) (fun K_ hK_ => ?_); go_big_quiet_op; refine hK_ _ ?_; clear hK_ K_)
  (refine tree_quiet gtA (by rfl) (by rfl) (fun K_ hK_ => ?_); go_big_quiet_op; refine hK_ _ ?_; clear hK_ K_)
  (refine tree_quiet gtA (by rfl) (by rfl) (fun K_ hK_ => ?_); go_big_quiet_op; refine hK_ _ ?_; clear hK_ K_)
  (refine tree_quiet gtA (by rfl) (by rfl) (fun K_ hK_ => ?_); go_big_quiet_op; refine hK_ _ ?_; clear hK_ K_)
  (refine tree_quiet gtA (by rfl) (by rfl) (fun K_ hK_ => ?_); go_big_quiet_op; refine hK_ _ ?_; clear hK_ K_)
  (refine tree_quiet gtA (by rfl) (by rfl) (fun K_ hK_ => ?_); go_big_quiet_op; refine hK_ _ ?_; clear hK_ K_)
  (refine tree_quiet gtA (by rfl) (by rfl) (fun K_ hK_ => ?_); go_big_quiet_op; refine hK_ _ ?_; clear hK_ K_)
  refine tree_nil ?_
  clear hG_
  go_wp2_with fail
  refine bodyPost_ret (v := .tuple #[.int .i64 (i : Nat), .bool true]) (by simp [results, Try.results129, go_sem]) rfl ?_
  refine ⟨rfl, ?_, ?_⟩
  · refine KSt.below (w := W) ?_ (bdrew1 (brefl W))
    rw [HW.out, HN.out]
    refine ⟨arr, h1, by have := HN.out; omega, ?_, H5.out⟩
    have := congrArg (List.take ks.length) H3.out
    rw [List.take_take, Nat.min_eq_left (by omega)] at this
    rw [this]
    simp
  · rw [HW.out]
    exact ((KeepC.refl _ _ w).set hB H4.out ⟨rfl, rfl⟩ _).trans (KeepC.of (bdrew1 (brefl _)) (by have := (Array.getElem?_eq_some_iff.1 H4.out).1; simp; omega))
end Go.Proofs.Ytaladlaffglkeaa
end
section

/- stack: the glyphs that are kept move, by the values from one on. Conditions: a subtable, places, and what is kept, in memory; from the value on they are there, up to an odd one. -/
namespace Go.Proofs.Ytaladlaffglkeaa
open Go.RowKit Go.Lib

/-- What Run of such a subtable may change: what is kept, and places. -/
def ownKT (gk gp : Nat) (bp : Option Nat) (k t : Nat) : Prop := (k = gk ∧ t = 175) ∨ (k = gp ∧ t = 172) ∨ (bp = some k ∧ t = 84)
theorem ownKT_no {gk gp t : Nat} {bp : Option Nat} (h1 : t ≠ 175) (h2 : t ≠ 172) (h3 : t ≠ 84) : ∀ k, ¬ ownKT gk gp bp k t := fun _ h => by
  rcases h with ⟨_, h⟩ | ⟨_, h⟩ | ⟨_, h⟩
  · exact h1 h
  · exact h2 h
  · exact h3 h
theorem notM_KT (gk gp : Nat) (bp : Option Nat) : notM (ownKT gk gp bp) := ⟨ownKT_no (by decide) (by decide) (by decide), ownKT_no (by decide) (by decide) (by decide), ownKT_no (by decide) (by decide) (by decide), ownKT_no (by decide) (by decide) (by decide), ownKT_no (by decide) (by decide) (by decide), ownKT_no (by decide) (by decide) (by decide), ownKT_no (by decide) (by decide) (by decide)⟩
theorem KeepC.ofK1 {B gk gp : Nat} {bp : Option Nat} {w w' : World} (h : KeepC B (ownK1 gk) w w') : KeepC B (ownKT gk gp bp) w w' := ⟨h.below, h.size, fun k cs t fz hk ho => h.kept k cs t fz hk fun hs => ho (.inl hs)⟩
theorem PlIs.step {B gp gk c : Nat} {d : Bool} {a : Option Addr} {l : List Pl} {w w' : World} (h : PlIs B gp d a c l w) (hs : GStep B gp a a w w') : KeepC B (ownKT gk gp (a.map (·.block))) w w' := by
  refine ⟨hs.below, hs.below.size, fun k cs t fz hk ho => ?_⟩
  refine hs.keep k (Array.getElem?_eq_some_iff.1 hk).1 ?_ ?_
  · rintro rfl
    rw [h.hd] at hk
    cases hk
    exact ho (.inr (.inl ⟨rfl, rfl⟩))
  · intro e
    rcases h.row.2 with ⟨hv, _⟩ | ⟨b, cap, cur, hv, _, hh, _⟩
    · injection hv with hv
      rw [hv] at e
      cases e
    · injection hv with hv
      rw [hv] at e
      injection e with e
      subst e
      rw [hh] at hk
      cases hk
      exact ho (.inr (.inr ⟨by rw [hv]; rfl, rfl⟩))
theorem PlIs.keepQ {B B0 gp c : Nat} {d : Bool} {a : Option Addr} {l : List Pl} {own : Nat → Nat → Prop} {w w' : World} (h : PlIs B gp d a c l w) (hk : KeepC B0 own w w') (h1 : ∀ k, ¬ own k 172) (h2 : ∀ k, ¬ own k 84) : PlIs B gp d a c l w' :=
  ⟨(hk.kept _ _ _ _ h.hd (h1 _)).trans h.hd, hk.owns h.row h2⟩
theorem QIs.keep {L B gt B0 : Nat} {bs : List UInt8} {rs : List RP} {S : Nat} {own : Nat → Nat → Prop} {w w' : World} (h : QIs L B gt bs rs S w) (hk : KeepC B0 own w w') (hL : L ≤ B0) (hm : notM own) (h1 : ∀ k, ¬ own k 177) (h2 : ∀ k, ¬ own k 5) : QIs L B gt bs rs S w' := by
  obtain ⟨g, a, c, e1, e2, e3, e4, e5⟩ := h.is
  exact ⟨⟨g, a, c, (hk.kept _ _ _ _ e1 (h1 _)).trans e1, e2.keepO hk hm, e3.keep hk hL h2, e4, e5⟩, h.ge⟩
theorem KSt.stepP {B gk gp c : Nat} {ks : List Nat} {d : Bool} {a : Option Addr} {l : List Pl} {w w' : World} (h : KSt gk ks w) (hp : PlIs B gp d a c l w) (hs : GStep B gp a a w w') : KSt gk ks w' := by
  obtain ⟨arr, k1, k2, k3, k4⟩ := h
  refine ⟨arr, k1, k2, k3, (hs.keep gk (Array.getElem?_eq_some_iff.1 k4).1 ?_ ?_).trans k4⟩
  · rintro rfl
    have := hp.hd
    rw [k4] at this
    injection this with this
    injection this with _ h2 _
    exact absurd h2 (by decide)
  · intro e
    rcases hp.row.2 with ⟨hv, _⟩ | ⟨b, cap, cur, hv, _, hh, _⟩
    · injection hv with hv
      rw [hv] at e
      cases e
    · injection hv with hv
      rw [hv] at e
      injection e with e
      subst e
      rw [hh] at k4
      injection k4 with k4
      injection k4 with _ h2 _
      exact absurd h2 (by decide)
set_option maxHeartbeats 1600000 in
theorem moveBy_any (B g : Nat) (d : Bool) (a : Option Addr) (c : Nat) (l : List Pl) (i x : Nat) (cr : Bool) (v : Int) (hv : v = evenZ x) (w : World) (h : PlIs B g d a c l w) (hi : In32 l) :
    Calls Try.prog 131 #[.pointer (some ⟨g, 0, none⟩), .int .i64 (i : Nat), .int .i64 v, .bool cr] w fun e w' => e = .returned (.tuple #[]) ∧ PlIs B g d a c (moveK d cr l i x) w' ∧ GStep B g a a w w' := by
  have HA := Lib.hid (palong_any B g d a c l (i : Nat) v w h hi)
  have HC := Lib.hid (pcross_any B g d a c l (i : Nat) v w h hi)
  have HL := Lib.hid (plevel_any B g d a c l (i : Nat) w h)
  clear h
  unfold moveK
  rw [← hv]
  clear hv
  cases cr with
  | false =>
    go_enter Try.func131, Try.ntmps131
    go_wp2_with (go_at_call 149; (with_reducible refine HA.out.mono ?_); rintro e w1 ⟨rfl, hp, hs⟩)
    go_end0
    exact ⟨rfl, hp, hs⟩
  | true =>
    by_cases h0 : v = -32768
    · have d0 : (v == -32768) = true := by simp [h0]
      rw [if_pos rfl, if_pos h0]
      clear h0
      go_enter Try.func131, Try.ntmps131
      go_wp2_with (go_at_call 150; (with_reducible refine HL.out.mono ?_); rintro e w1 ⟨rfl, hp, hs⟩)
      go_end0
      exact ⟨rfl, hp, hs⟩
    · have d0 : (v == -32768) = false := by simp [h0]
      rw [if_pos rfl, if_neg h0]
      clear h0
      go_enter Try.func131, Try.ntmps131
      go_wp2_with (go_at_call 151; (with_reducible refine HC.out.mono ?_); rintro e w1 ⟨rfl, hp, hs⟩)
      go_end0
      exact ⟨rfl, hp, hs⟩
/-- The places, where a subtable changes them. -/
structure QPl (B gk gp : Nat) (d : Bool) (a : Option Addr) (c : Nat) (x : QX) (w : World) : Prop where
  st : KSt gk x.1 w
  pl : PlIs B gp d a c x.2 w
  in32 : In32 x.2
theorem QPl.below {B gk gp c : Nat} {d : Bool} {a : Option Addr} {x : QX} {w w' : World} (h : QPl B gk gp d a c x w) (hb : Below w.heap.size w w') : QPl B gk gp d a c x w' := ⟨h.st.below hb, h.pl.below hb, h.in32⟩
set_option maxRecDepth 100000 in
set_option maxHeartbeats 3200000 in
theorem move_any (L Bt gt : Nat) (bs : List UInt8) (rs : List RP) (S : Nat) (B gk gp : Nat) (d cr : Bool) (a : Option Addr) (c : Nat) (x : QX) (A : Nat) (w : World) (hT : QIs L Bt gt bs rs S w) (hL : L ≤ B) (h : QPl B gk gp d a c x w) (hB : B ≤ w.heap.size) (hBk : B ≤ gk) (hgood : GoodV (bs.drop (num bs 16 4)) A) :
    Calls Try.prog 83 #[.pointer (some ⟨gt, 0, none⟩), .pointer (some ⟨gp, 0, none⟩), .pointer (some ⟨gk, 0, none⟩), .int .i64 (A : Nat), .bool cr] w fun e w' => e = .returned (.tuple #[]) ∧ QPl B gk gp d a c (moveS (bs.drop (num bs 16 4)) d cr x.1 x.2 A) w' ∧ KeepC B (ownKT gk gp (a.map (·.block))) w w' := by
  obtain ⟨q0, hq1, hq2, hq3⟩ := hgood
  obtain ⟨vs, hvs⟩ : ∃ vs, vs = bs.drop (num bs 16 4) := ⟨_, rfl⟩
  rw [← hvs] at hq2 hq3 ⊢
  obtain ⟨R, hR⟩ : ∃ R, R = moveS vs d cr x.1 x.2 A := ⟨_, rfl⟩
  rw [← hR]
  have HT := Lib.hid (fun W (hk : KeepC B (ownKT gk gp (a.map (·.block))) w W) => hT.keep hk hL (notM_KT _ _ _) (ownKT_no (by decide) (by decide) (by decide)) (ownKT_no (by decide) (by decide) (by decide)))
  have HVAL := Lib.hid (fun W (hk : KeepC B (ownKT gk gp (a.map (·.block))) w W) (k : Nat) (z : Int) (hz : z = (k : Nat)) (hk2 : 2 * k + 2 ≤ vs.length) => show Calls Try.prog 130 #[.pointer (some ⟨gt, 0, none⟩), .int .i64 z] W fun e w' => e = .returned (.int .i64 (s16 (num vs (2 * k) 2))) ∧ Below W.heap.size W w' from by
    obtain ⟨g, ab, cb, e1, e2, e3, e4, e5⟩ := (HT.out W hk).is
    have hlen : vs.length = bs.length - num bs 16 4 := by rw [hvs, List.length_drop]
    have hP : num bs 16 4 ≤ cb := by omega
    refine value_ok gt _ (0, 0) _ (bs.length - num bs 16 4) (cb - num bs 16 4) vs k z hz W e1 ?_ hlen (by omega) (by omega) (by omega)
    rw [hvs]
    exact (e3.adv cb _ (by omega)).has)
  have hmax : vs.length ≤ 9223372036854775807 := by
    obtain ⟨_, _, cb, _, _, _, h5, h6⟩ := hT.is
    unfold maxLen at h6
    rw [hvs, List.length_drop]
    omega
  have HQ3 := Lib.hid hq3
  have HR := Lib.hid hR.symm
  have HH := Lib.hid h
  clear h hT hR hq3
  go_enter Try.func83, Try.ntmps83
  go_wp2_with fail
  go_loopw [3] (fun n wr => ∃ (m : Nat) (y : QX), n = .int .i64 (m : Nat) ∧ m ≤ q0 ∧ moveS vs d cr y.1 y.2 m = R ∧ QPl B gk gp d a c y wr ∧ KeepC B (ownKT gk gp (a.map (·.block))) w wr) (fun n _ => q0 + 1 - (RowKit.intOf n).toNat)
  case atStart => exact ⟨A, x, rfl, hq1, HR.out, HH.out, KeepC.refl _ _ _⟩
  case round =>
    obtain ⟨m, ⟨ks, l⟩, rfl, hm, hrun, hp, hk⟩ := hrel
    rename World => wr
    have HP := Lib.hid hp
    have HK := Lib.hid hk
    have HRUN := Lib.hid hrun
    clear hp hk hrun
    cases ks with
    | nil =>
      have HPOP := Lib.hid (kpop_none gk wr HP.out.st)
      go_wp2_with (go_at_call 129; (with_reducible refine HPOP.out.mono ?_); rintro e w1 ⟨rfl, rfl⟩)
      refine bodyPost_ret (results_none rfl _ _ _) rfl ?_
      exact ⟨rfl, by rw [← HRUN.out]; exact HP.out, HK.out⟩
    | cons i ks =>
      have HPOP := Lib.hid (kpop_any B gk i ks wr HP.out.st hBk)
      have hlen : 2 * m + 2 ≤ vs.length := by omega
      obtain ⟨X, hX⟩ : ∃ X, X = num vs (2 * m) 2 := ⟨_, rfl⟩
      have hX6 : X ≤ 65535 := by rw [hX]; exact num2_lt _ _
      have hv1 : bits .andNot .i64 (s16 X) 1 = evenZ X := s16_even X hX6
      have hb1 := s16_bit X
      have HV := Lib.hid (fun W (hk : KeepC B (ownKT gk gp (a.map (·.block))) w W) (z : Int) (hz : z = (m : Nat)) => hX ▸ HVAL.out W hk m z hz hlen)
      have HX := Lib.hid hX
      have hrun := HRUN.out
      simp only [moveS] at hrun
      rw [← hX] at hrun
      have HRUN2 := Lib.hid hrun
      clear hrun hX HRUN
      by_cases hodd : X % 2 = 1
      · have d1 : bits .and .i64 (s16 X) 1 = 1 := by rw [hb1, hodd]; rfl
        clear hb1
        have HE := Lib.hid (show (ks, moveK d cr l i X) = R by have := HRUN2.out; rw [if_pos hodd] at this; exact this)
        clear HRUN2
        go_wp2_with (first
          | (go_at_call 129; (with_reducible refine HPOP.out.mono ?_); rintro e w1 ⟨rfl, hst, hk1⟩; have HST1 := Lib.hid hst; have HK1 := Lib.hid (HK.out.trans hk1.ofK1); have HP1 := Lib.hid (HP.out.pl.keepQ hk1 (fun k h => absurd h.2 (by decide)) (fun k h => absurd h.2 (by decide))); clear hst hk1)
          | (go_at_call 130; (with_reducible refine (HV.out _ HK1.out _ (by go_num)).mono ?_); rintro e w2 ⟨rfl, hb2⟩; have HST2 := Lib.hid (HST1.out.below hb2); have HP2 := Lib.hid (HP1.out.below hb2); have HK2 := Lib.hid (HK1.out.trans (KeepC.of (own := ownKT gk gp (a.map (·.block))) hb2 (Nat.le_trans hB HK1.out.size))); clear hb2)
          | (go_at_call 131; (with_reducible refine (moveBy_any B gp d a c l i X cr _ rfl _ HP2.out HP.out.in32).mono ?_); rintro e w3 ⟨rfl, hp3, hs3⟩; have hk3 := HP2.out.step (gk := gk) hs3; have HST3 := Lib.hid (HST2.out.stepP HP2.out hs3); have HP3 := Lib.hid hp3; have HK3 := Lib.hid (HK2.out.trans hk3); clear hp3 hs3 hk3))
        refine bodyPost_ret (results_none rfl _ _ _) rfl ?_
        exact ⟨rfl, by rw [← HE.out]; exact ⟨HST3.out, HP3.out, moveK_in HP.out.in32 _ _⟩, HK3.out⟩
      · have d1 : bits .and .i64 (s16 X) 1 = 0 := by rw [hb1, show X % 2 = 0 by omega]; rfl
        clear hb1
        have HE := Lib.hid (show moveS vs d cr ks (moveK d cr l i X) (m + 1) = R by have := HRUN2.out; rw [if_neg hodd] at this; exact this)
        have hmq : m + 1 ≤ q0 := by
          rcases Nat.lt_or_ge m q0 with h | h
          · exact h
          · exact absurd (by rw [HX.out, show m = q0 by omega]; exact HQ3.out) hodd
        clear HRUN2
        go_wp2_with (first
          | (go_at_call 129; (with_reducible refine HPOP.out.mono ?_); rintro e w1 ⟨rfl, hst, hk1⟩; have HST1 := Lib.hid hst; have HK1 := Lib.hid (HK.out.trans hk1.ofK1); have HP1 := Lib.hid (HP.out.pl.keepQ hk1 (fun k h => absurd h.2 (by decide)) (fun k h => absurd h.2 (by decide))); clear hst hk1)
          | (go_at_call 130; (with_reducible refine (HV.out _ HK1.out _ (by go_num)).mono ?_); rintro e w2 ⟨rfl, hb2⟩; have HST2 := Lib.hid (HST1.out.below hb2); have HP2 := Lib.hid (HP1.out.below hb2); have HK2 := Lib.hid (HK1.out.trans (KeepC.of (own := ownKT gk gp (a.map (·.block))) hb2 (Nat.le_trans hB HK1.out.size))); clear hb2)
          | (go_at_call 131; (with_reducible refine (moveBy_any B gp d a c l i X cr _ rfl _ HP2.out HP.out.in32).mono ?_); rintro e w3 ⟨rfl, hp3, hs3⟩; have hk3 := HP2.out.step (gk := gk) hs3; have HST3 := Lib.hid (HST2.out.stepP HP2.out hs3); have HP3 := Lib.hid hp3; have HK3 := Lib.hid (HK2.out.trans hk3); clear hp3 hs3 hk3))
        go_roundw
        case rel => exact ⟨m + 1, (ks, moveK d cr l i X), by go_num, hmq, HE.out, ⟨HST3.out, HP3.out, moveK_in HP.out.in32 _ _⟩, HK3.out⟩
        case measure => simp only [RowKit.intOf]; omega
end Go.Proofs.Ytaladlaffglkeaa
end
