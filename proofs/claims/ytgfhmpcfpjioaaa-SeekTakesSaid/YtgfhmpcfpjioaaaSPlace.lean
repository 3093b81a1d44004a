
/- The contract of seek.Place: where a number stands in a rising list. Condition: the list rises. -/
import Derived.Test.YtgfhmpcfpjioaaaSFirst
namespace Go.Proofs.Ytgfhmpcfpjioaaa
open Go.RowKit

def intsV (zs : List Int) : List Value := zs.map (Value.int .i64)
theorem intsV_length (zs : List Int) : (intsV zs).length = zs.length := by simp [intsV]
theorem intsV_get (zs : List Int) (j : Nat) (h : j < zs.length) : (intsV zs)[j]? = some (.int .i64 (zs.getD j 0)) := by
  simp [intsV, List.getElem?_map, List.getElem?_eq_getElem h, List.getD_eq_getElem?_getD]
def IsPlace (zs : List Int) (x : Int) (B : Nat) (w : World) (e : Ending) (w' : World) : Prop :=
  ((∃ i : Nat, i < zs.length ∧ zs.getD i 0 = x ∧ e = .returned (.tuple #[.int .i64 i, .bool true])) ∨ ((∀ i, i < zs.length → zs.getD i 0 ≠ x) ∧ e = .returned (.tuple #[.int .i64 0, .bool false]))) ∧ Below B w w'
theorem enter_place1 (args : Array Value) (w : World) : (callFunc 43 args).run Try.prog w = .ok (.enter 43 args) w := by kernel_rfl

set_option maxRecDepth 100000 in
set_option maxHeartbeats 800000 in
theorem place1_any (a : Option Addr) (n c : Nat) (zs : List Int) (x : Int) (g0 g1 : Nat) (i : Nat) (w : World) (h : Has w a (intsV zs)) (hl : zs.length = n) (hc : n ≤ 9223372036854775807) (hi : i < n)
    (c0 : w.cell? ⟨g0, 0, none⟩ = some (.slice a n c)) (c1 : w.cell? ⟨g1, 0, none⟩ = some (.int .i64 x)) :
    Calls Try.prog 43 #[.int .i64 i, .pointer (some ⟨g0, 0, none⟩), .pointer (some ⟨g1, 0, none⟩)] w fun e w' => e = .returned (.bool (decide (x ≤ zs.getD i 0))) ∧ Below w.heap.size w w' := by
  obtain ⟨b, o, rfl, hb, hg⟩ := h.get (by rw [intsV_length, hl]; omega)
  have hx := hg i _ (intsV_get zs i (by omega))
  generalize zs.getD i 0 = y at *
  clear hg h hl
  have l0 := cell_lt c0
  have l1 := cell_lt c1
  simp only at l0 l1
  go_enter Try.func43, Try.ntmps43
  go_wp2_with fail
  refine wp_region_ord [0, 1, 2, 3, 4, 5, 6] (by kernel_rfl) (by kernel_rfl) (by kernel_rfl) (by kernel_rfl) (by intro _ _ d_ _ _ h_; cases d_ <;> first | exact h_ | (dsimp +zetaDelta only at h_ ⊢; exact h_)) (fun w' => ∃ p : Wld w [], w' = p.val) (wld_start _ _) ?_
  have hG_ := @wldC w
  (refine ord_quiet (by simp only [List.getElem?_toArray, List.getElem?_cons_succ, List.getElem?_cons_zero]; rfl) (by rfl) (by rfl) (fun K_ hK_ => ?_); go_big_quiet_op; refine hK_ _ ?_; clear hK_ K_)
  (refine ord_quiet (by simp only [List.getElem?_toArray, List.getElem?_cons_succ, List.getElem?_cons_zero]; rfl) (by rfl) (by rfl) (fun K_ hK_ => ?_); go_big_quiet_op; refine hK_ _ ?_; clear hK_ K_)
  (refine ord_quiet (by simp only [List.getElem?_toArray, List.getElem?_cons_succ, List.getElem?_cons_zero]; rfl) (by rfl) (by rfl) (fun K_ hK_ => ?_); go_big_quiet_op; refine hK_ _ ?_; clear hK_ K_)
  (refine ord_quiet (by simp only [List.getElem?_toArray, List.getElem?_cons_succ, List.getElem?_cons_zero]; rfl) (by rfl) (by rfl) (fun K_ hK_ => ?_); go_big_quiet_op; refine hK_ _ ?_; clear hK_ K_)
  (refine ord_quiet (by simp only [List.getElem?_toArray, List.getElem?_cons_succ, List.getElem?_cons_zero]; rfl) (by rfl) (by rfl) (fun K_ hK_ => ?_); go_big_quiet_op; refine hK_ _ ?_; clear hK_ K_)
  (refine ord_quiet (by simp only [List.getElem?_toArray, List.getElem?_cons_succ, List.getElem?_cons_zero]; rfl) (by rfl) (by rfl) (fun K_ hK_ => ?_); go_big_quiet_op; refine hK_ _ ?_; clear hK_ K_)
  (refine ord_quiet (by simp only [List.getElem?_toArray, List.getElem?_cons_succ, List.getElem?_cons_zero]; rfl) (by rfl) (by rfl) (fun K_ hK_ => ?_); go_big_quiet_op; refine hK_ _ ?_; clear hK_ K_)
  refine ord_nil ?_
  clear hG_
  go_wp2
  go_ret
  exact ⟨rfl, (brefl w).drew⟩

set_option maxRecDepth 100000 in
set_option maxHeartbeats 1600000 in
theorem place_any (a : Option Addr) (n c : Nat) (zs : List Int) (x : Int) (w : World) (h : Has w a (intsV zs)) (hl : zs.length = n) (hn : n ≤ c) (hc : c ≤ maxLen) (hr : ∀ i j, i < j → j < n → zs.getD i 0 < zs.getD j 0) :
    Calls Try.prog 20 #[.slice a n c, .int .i64 x] w (IsPlace zs x w.heap.size w) := by
  have HH := Lib.hid h
  have HL := Lib.hid hl
  have HR := Lib.hid hr
  have hcm := hc
  unfold maxLen at hcm
  clear h hl hr
  have hAC := allocC
  have hAF := allocF
  have hmf : ∀ (fn : Fn) (first cap : Array Value) (w : World), (Instr.makeFunc fn first cap).run Try.prog w = .ok (.func fn first cap) w := fun _ _ _ _ => rfl
  go_enter Try.func20, Try.ntmps20
  go_wp2_with fail
  obtain ⟨W, hW⟩ : ∃ W, W = (w.alloc (Obj.cells #[.slice a n c] 29)).alloc (Obj.cells #[.int .i64 x] 3) := ⟨_, rfl⟩
  have hb : Below w.heap.size w W := by rw [hW]; exact (by repeat (first | exact brefl _ | assumption | refine balloc ?_ _ | refine bdrew ?_ _ | refine bdrew1 ?_ | refine bthen ?_ (by assumption) | refine Below.trans ?_ (by assumption) | (refine bset ?_ (by first | (simp; done) | (simp; omega)) _)))
  have hz : W.heap.size = w.heap.size + 2 := by rw [hW]; simp
  have c0 : W.cell? ⟨w.heap.size, 0, none⟩ = some (.slice a n c) := by rw [hW]; simp [hAC]
  have c1 : W.cell? ⟨w.heap.size + 1, 0, none⟩ = some (.int .i64 x) := by rw [hW]; simp [hAC]
  rw [← hW]
  clear hW
  have HB := Lib.hid hb
  have C0 := Lib.hid c0
  have C1 := Lib.hid c1
  clear hb c0 c1
  have hcall : ∀ (i k : Nat) (V : World), i < n → k < Lib.bitLen n → Below W.heap.size W V → Calls Try.prog 43 (#[.int .i64 i] ++ #[.pointer (some ⟨w.heap.size, 0, none⟩), .pointer (some ⟨w.heap.size + 1, 0, none⟩)]) V fun e w' => e = .returned (.bool (decide (x ≤ zs.getD i 0))) ∧ Below W.heap.size W w' := fun i k V hi _ hV =>
    (place1_any a n c zs x _ _ i V ((HH.out.below HB.out).below hV) HL.out (by omega) hi ((hV.cell (p := ⟨w.heap.size, 0, none⟩) (by rw [hz]; simp)).trans C0.out) ((hV.cell (p := ⟨w.heap.size + 1, 0, none⟩) (by rw [hz]; simp)).trans C1.out)).mono fun e w' g => ⟨g.1, hV.trans (g.2.mono hV.size)⟩
  have hmono : ∀ i j, i ≤ j → j < n → decide (x ≤ zs.getD i 0) = true → decide (x ≤ zs.getD j 0) = true := fun i j hij hj hi => by
    rcases Nat.lt_or_ge i j with g | g
    · have := HR.out i j g hj
      simp only [decide_eq_true_eq] at *; omega
    · obtain rfl : i = j := by omega
      exact hi
  have HF := Lib.hid (first_any 43 #[.pointer (some ⟨w.heap.size, 0, none⟩), .pointer (some ⟨w.heap.size + 1, 0, none⟩)] n (fun i => decide (x ≤ zs.getD i 0)) (fun _ V => Below W.heap.size W V) W (by omega) hmono (Below.refl _ _) enter_place1 hcall)
  clear hcall hmono
  refine HF.out.mono ?_
  rintro e V ⟨r, k, hrn, hlo, hhi, _, rfl, hV⟩
  have d0 := (hV.cell (p := ⟨w.heap.size, 0, none⟩) (by rw [hz]; simp)).trans C0.out
  have d1 := (hV.cell (p := ⟨w.heap.size + 1, 0, none⟩) (by rw [hz]; simp)).trans C1.out
  have hzV := hV.size
  have hl0 : w.heap.size < V.heap.size := by omega
  have hl1 : w.heap.size + 1 < V.heap.size := by omega
  have HBV := Lib.hid (HB.out.trans (hV.mono (by omega)))
  have HLO := Lib.hid hlo
  have HHI := Lib.hid hhi
  clear hV hlo hhi
  have HW := Lib.hid (show ∀ (b o : Nat) u, w.cell? ⟨b, o, none⟩ = some u → V.cell? ⟨b, o, none⟩ = some u ∧ b < V.heap.size from fun b o u hu => ⟨(HBV.out.cell (p := ⟨b, o, none⟩) (cell_lt hu)).trans hu, Nat.lt_of_lt_of_le (cell_lt hu) HBV.out.size⟩)
  by_cases hlt : r < n
  · obtain ⟨b, o, rfl, hbl, hg⟩ := HH.out.get (by rw [intsV_length, HL.out]; omega)
    have hg' := fun (j : Nat) (hj : j < n) => hg j _ (intsV_get zs j (by rw [HL.out]; exact hj))
    have hx := (HW.out _ _ _ (hg' r hlt)).1
    have hne : ((r : Int) == (n : Int)) = false := by simp; omega
    have HY := Lib.hid (hg' r hlt)
    have hge := HHI.out r (Nat.le_refl _) hlt
    simp only [decide_eq_true_eq] at hge
    generalize hy : zs.getD r 0 = y at *
    have HY2 := Lib.hid hy
    clear hg hg' hy
    by_cases he : y = x
    · have HE := Lib.hid he
      have hd : (y != x) = false := by simp [he]
      clear he
      go_wp2_with fail
      refine wp_region_tree (.step 0 (.step 1 (.step 2 (.step 3 (.step 4 (.step 5 (.step 6 (.step 7 (.step 8 (.step 9 (.step 10 (.step 11 .nil)))))))))))) (by kernel_rfl) (by kernel_rfl) (by kernel_rfl) (by kernel_rfl) (by intro _ _ d_ _ _ h_; cases d_ <;> first | exact h_ | (dsimp +zetaDelta only at h_ ⊢; exact h_)) (fun w' => ∃ p : Wld V [], w' = p.val) (wld_start _ _) ?_
      have hG_ := @wldC V
      (refine tree_quiet (by simp only [List.getElem?_toArray, List.getElem?_cons_succ, List.getElem?_cons_zero]; rfl) (by rfl) (by rfl) (fun K_ hK_ => ?_); go_big_quiet_op; refine hK_ _ ?_; clear hK_ K_)
      (refine tree_quiet (by simp only [List.getElem?_toArray, List.getElem?_cons_succ, List.getElem?_cons_zero]; rfl) (by rfl) (by rfl) (fun K_ hK_ => ?_); go_big_quiet_op; refine hK_ _ ?_; clear hK_ K_)
      (refine tree_quiet (by simp only [List.getElem?_toArray, List.getElem?_cons_succ, List.getElem?_cons_zero]; rfl) (by rfl) (by rfl) (fun K_ hK_ => ?_); go_big_quiet_op; refine hK_ _ ?_; clear hK_ K_)
      (refine tree_quiet (by simp only [List.getElem?_toArray, List.getElem?_cons_succ, List.getElem?_cons_zero]; rfl) (by rfl) (by rfl) (fun K_ hK_ => ?_); go_big_quiet_op; refine hK_ _ ?_; clear hK_ K_)
      (refine tree_quiet (by simp only [List.getElem?_toArray, List.getElem?_cons_succ, List.getElem?_cons_zero]; rfl) (by rfl) (by rfl) (fun K_ hK_ => ?_); go_big_quiet_op; refine hK_ _ ?_; clear hK_ K_)
      (refine tree_quiet (by simp only [List.getElem?_toArray, List.getElem?_cons_succ, List.getElem?_cons_zero]; rfl) (by rfl) (by rfl) (fun K_ hK_ => ?_); go_big_quiet_op; refine hK_ _ ?_; clear hK_ K_)
      (refine tree_quiet (by simp only [List.getElem?_toArray, List.getElem?_cons_succ, List.getElem?_cons_zero]; rfl) (by rfl) (by rfl) (fun K_ hK_ => ?_); go_big_quiet_op; refine hK_ _ ?_; clear hK_ K_)
      (refine tree_quiet (by simp only [List.getElem?_toArray, List.getElem?_cons_succ, List.getElem?_cons_zero]; rfl) (by rfl) (by rfl) (fun K_ hK_ => ?_); go_big_quiet_op; refine hK_ _ ?_; clear hK_ K_)
      (refine tree_quiet (by simp only [List.getElem?_toArray, List.getElem?_cons_succ, List.getElem?_cons_zero]; rfl) (by rfl) (by rfl) (fun K_ hK_ => ?_); go_big_quiet_op; refine hK_ _ ?_; clear hK_ K_)
      (refine tree_quiet (by simp only [List.getElem?_toArray, List.getElem?_cons_succ, List.getElem?_cons_zero]; rfl) (by rfl) (by rfl) (fun K_ hK_ => ?_); go_big_quiet_op; refine hK_ _ ?_; clear hK_ K_)
      (refine tree_quiet (by simp only [List.getElem?_toArray, List.getElem?_cons_succ, List.getElem?_cons_zero]; rfl) (by rfl) (by rfl) (fun K_ hK_ => ?_); go_big_quiet_op; refine hK_ _ ?_; clear hK_ K_)
      (refine tree_quiet (by simp only [List.getElem?_toArray, List.getElem?_cons_succ, List.getElem?_cons_zero]; rfl) (by rfl) (by rfl) (fun K_ hK_ => ?_); go_big_quiet_op; refine hK_ _ ?_; clear hK_ K_)
      refine tree_nil ?_
      clear hG_
      go_wp2
      go_ret2
      exact ⟨.inl ⟨r, by rw [HL.out]; exact hlt, HY2.out.trans HE.out, rfl⟩, HBV.out.drew⟩
    · have HE := Lib.hid he
      have hd : (y != x) = true := by simp [he]
      have HNO := Lib.hid (show ∀ i, i < zs.length → zs.getD i 0 ≠ x from fun i hi hx2 => by
        rw [HL.out] at hi
        rcases Nat.lt_trichotomy i r with g | g | g
        · have := HLO.out i g
          simp only [decide_eq_false_iff_not] at this; omega
        · subst g; exact HE.out (HY2.out.symm.trans hx2)
        · have := HR.out r i g hi
          have := HY2.out
          have := HE.out
          omega)
      clear he
      go_wp2_with fail
      refine wp_region_tree (.step 0 (.step 1 (.step 2 (.step 3 (.step 4 (.step 5 (.step 6 (.step 7 (.step 8 (.step 9 (.step 10 (.step 11 .nil)))))))))))) (by kernel_rfl) (by kernel_rfl) (by kernel_rfl) (by kernel_rfl) (by intro _ _ d_ _ _ h_; cases d_ <;> first | exact h_ | (dsimp +zetaDelta only at h_ ⊢; exact h_)) (fun w' => ∃ p : Wld V [], w' = p.val) (wld_start _ _) ?_
      have hG_ := @wldC V
      (refine tree_quiet (by simp only [List.getElem?_toArray, List.getElem?_cons_succ, List.getElem?_cons_zero]; rfl) (by rfl) (by rfl) (fun K_ hK_ => ?_); go_big_quiet_op; refine hK_ _ ?_; clear hK_ K_)
      (refine tree_quiet (by simp only [List.getElem?_toArray, List.getElem?_cons_succ, List.getElem?_cons_zero]; rfl) (by rfl) (by rfl) (fun K_ hK_ => ?_); go_big_quiet_op; refine hK_ _ ?_; clear hK_ K_)
      (refine tree_quiet (by simp only [List.getElem?_toArray, List.getElem?_cons_succ, List.getElem?_cons_zero]; rfl) (by rfl) (by rfl) (fun K_ hK_ => ?_); go_big_quiet_op; refine hK_ _ ?_; clear hK_ K_)
      (refine tree_quiet (by simp only [List.getElem?_toArray, List.getElem?_cons_succ, List.getElem?_cons_zero]; rfl) (by rfl) (by rfl) (fun K_ hK_ => ?_); go_big_quiet_op; refine hK_ _ ?_; clear hK_ K_)
      (refine tree_quiet (by simp only [List.getElem?_toArray, List.getElem?_cons_succ, List.getElem?_cons_zero]; rfl) (by rfl) (by rfl) (fun K_ hK_ => ?_); go_big_quiet_op; refine hK_ _ ?_; clear hK_ K_)
      (refine tree_quiet (by simp only [List.getElem?_toArray, List.getElem?_cons_succ, List.getElem?_cons_zero]; rfl) (by rfl) (by rfl) (fun K_ hK_ => ?_); go_big_quiet_op; refine hK_ _ ?_; clear hK_ K_)
      (refine tree_quiet (by simp only [List.getElem?_toArray, List.getElem?_cons_succ, List.getElem?_cons_zero]; rfl) (by rfl) (by rfl) (fun K_ hK_ => ?_); go_big_quiet_op; refine hK_ _ ?_; clear hK_ K_)
      (refine tree_quiet (by simp only [List.getElem?_toArray, List.getElem?_cons_succ, List.getElem?_cons_zero]; rfl) (by rfl) (by rfl) (fun K_ hK_ => ?_); go_big_quiet_op; refine hK_ _ ?_; clear hK_ K_)
      (refine tree_quiet (by simp only [List.getElem?_toArray, List.getElem?_cons_succ, List.getElem?_cons_zero]; rfl) (by rfl) (by rfl) (fun K_ hK_ => ?_); go_big_quiet_op; refine hK_ _ ?_; clear hK_ K_)
      (refine tree_quiet (by simp only [List.getElem?_toArray, List.getElem?_cons_succ, List.getElem?_cons_zero]; rfl) (by rfl) (by rfl) (fun K_ hK_ => ?_); go_big_quiet_op; refine hK_ _ ?_; clear hK_ K_)
      (refine tree_quiet (by simp only [List.getElem?_toArray, List.getElem?_cons_succ, List.getElem?_cons_zero]; rfl) (by rfl) (by rfl) (fun K_ hK_ => ?_); go_big_quiet_op; refine hK_ _ ?_; clear hK_ K_)
      (refine tree_quiet (by simp only [List.getElem?_toArray, List.getElem?_cons_succ, List.getElem?_cons_zero]; rfl) (by rfl) (by rfl) (fun K_ hK_ => ?_); go_big_quiet_op; refine hK_ _ ?_; clear hK_ K_)
      refine tree_nil ?_
      clear hG_
      go_wp2
      go_ret2
      exact ⟨.inr ⟨HNO.out, rfl⟩, HBV.out.drew⟩
  · obtain rfl : r = n := by omega
    have HNO := Lib.hid (show ∀ i, i < zs.length → zs.getD i 0 ≠ x from fun i hi hx2 => by
        rw [HL.out] at hi
        have := HLO.out i hi
        simp only [decide_eq_false_iff_not] at this; omega)
    have hne : ((r : Int) == (r : Int)) = true := by simp
    clear hlt
    go_wp2_with fail
    refine wp_region_tree (.step 0 (.step 1 (.step 2 (.step 3 (.step 4 (.step 5 (.step 6 (.step 7 (.step 8 (.step 9 (.step 10 (.step 11 .nil)))))))))))) (by kernel_rfl) (by kernel_rfl) (by kernel_rfl) (by kernel_rfl) (by intro _ _ d_ _ _ h_; cases d_ <;> first | exact h_ | (dsimp +zetaDelta only at h_ ⊢; exact h_)) (fun w' => ∃ p : Wld V [], w' = p.val) (wld_start _ _) ?_
    have hG_ := @wldC V
    (refine tree_quiet (by simp only [List.getElem?_toArray, List.getElem?_cons_succ, List.getElem?_cons_zero]; rfl) (by rfl) (by rfl) (fun K_ hK_ => ?_); go_big_quiet_op; refine hK_ _ ?_; clear hK_ K_)
    (refine tree_quiet (by simp only [List.getElem?_toArray, List.getElem?_cons_succ, List.getElem?_cons_zero]; rfl) (by rfl) (by rfl) (fun K_ hK_ => ?_); go_big_quiet_op; refine hK_ _ ?_; clear hK_ K_)
    (refine tree_quiet (by simp only [List.getElem?_toArray, List.getElem?_cons_succ, List.getElem?_cons_zero]; rfl) (by rfl) (by rfl) (fun K_ hK_ => ?_); go_big_quiet_op; refine hK_ _ ?_; clear hK_ K_)
    (refine tree_quiet (by simp only [List.getElem?_toArray, List.getElem?_cons_succ, List.getElem?_cons_zero]; rfl) (by rfl) (by rfl) (fun K_ hK_ => ?_); go_big_quiet_op; refine hK_ _ ?_; clear hK_ K_)
    (refine tree_quiet (by simp only [List.getElem?_toArray, List.getElem?_cons_succ, List.getElem?_cons_zero]; rfl) (by rfl) (by rfl) (fun K_ hK_ => ?_); go_big_quiet_op; refine hK_ _ ?_; clear hK_ K_)
    refine tree_skip (by simp only [List.getElem?_toArray, List.getElem?_cons_succ, List.getElem?_cons_zero]; rfl) (by rfl) ?_; dsimp only [Act.put]; simp only [List.setIfInBounds_toArray, List.set_cons_succ, List.set_cons_zero]
    refine tree_skip (by simp only [List.getElem?_toArray, List.getElem?_cons_succ, List.getElem?_cons_zero]; rfl) (by rfl) ?_; dsimp only [Act.put]; simp only [List.setIfInBounds_toArray, List.set_cons_succ, List.set_cons_zero]
    refine tree_skip (by simp only [List.getElem?_toArray, List.getElem?_cons_succ, List.getElem?_cons_zero]; rfl) (by rfl) ?_; dsimp only [Act.put]; simp only [List.setIfInBounds_toArray, List.set_cons_succ, List.set_cons_zero]
    refine tree_skip (by simp only [List.getElem?_toArray, List.getElem?_cons_succ, List.getElem?_cons_zero]; rfl) (by rfl) ?_; dsimp only [Act.put]; simp only [List.setIfInBounds_toArray, List.set_cons_succ, List.set_cons_zero]
    refine tree_skip (by simp only [List.getElem?_toArray, List.getElem?_cons_succ, List.getElem?_cons_zero]; rfl) (by rfl) ?_; dsimp only [Act.put]; simp only [List.setIfInBounds_toArray, List.set_cons_succ, List.set_cons_zero]
    refine tree_skip (by simp only [List.getElem?_toArray, List.getElem?_cons_succ, List.getElem?_cons_zero]; rfl) (by rfl) ?_; dsimp only [Act.put]; simp only [List.setIfInBounds_toArray, List.set_cons_succ, List.set_cons_zero]
    (refine tree_quiet (by simp only [List.getElem?_toArray, List.getElem?_cons_succ, List.getElem?_cons_zero]; rfl) (by rfl) (by rfl) (fun K_ hK_ => ?_); go_big_quiet_op; refine hK_ _ ?_; clear hK_ K_)
    refine tree_nil ?_
    clear hG_
    go_wp2
    go_ret2
    exact ⟨.inr ⟨HNO.out, rfl⟩, HBV.out.drew⟩
end Go.Proofs.Ytgfhmpcfpjioaaa
