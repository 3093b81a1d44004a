
/- The walk of SeekFirst. No condition beside the numbers' own range. -/
import Derived.Test.YtgfhmpcfpjioaaaSSpeak
import Derived.Test.YtgfhmpcfpjioaaaShelf
namespace Go.Proofs.Ytgfhmpcfpjioaaa
open Go.RowKit

theorem bitLenAux_le : ∀ (f x : Nat), Lib.bitLenAux f x ≤ f
  | 0, x => by simp [Lib.bitLenAux]
  | f + 1, x => by
    have := bitLenAux_le f (x / 2)
    unfold Lib.bitLenAux
    split <;> omega
theorem bitLen_le (x : Nat) : Lib.bitLen x ≤ 64 := bitLenAux_le 64 x
theorem len32_any (x : Nat) (w : World) (h : x ≤ 4294967295) : Calls Try.prog 19 #[.int .u32 (x : Nat)] w fun e w' => e = .returned (.int .i64 (Lib.bitLen x : Nat)) ∧ w = w' := by
  refine (Try.bits_Len32 (x : Int) w (by omega) (by omega)).mono ?_
  rintro e w' ⟨rfl, rfl⟩
  exact ⟨by simp, rfl⟩
structure AskI (w : World) (n f ga go gn gf k : Nat) (W : World) : Prop where
  asked : W.heap[ga]? = some (.cells #[.int .i64 (k : Nat)] 3 (0, 0))
  outside : W.heap[go]? = some (.cells #[.bool false] 4 (0, 0))
  n : W.heap[gn]? = some (.cells #[.int .u32 (n : Nat)] 34 (0, 0))
  f : W.heap[gf]? = some (.cells #[.int .u32 (f : Nat)] 34 (0, 0))
  b : Below w.heap.size w W

set_option maxRecDepth 100000 in
set_option maxHeartbeats 1600000 in
theorem ask_any (w : World) (n f ga go gn gf i k : Nat) (W : World) (hn : n ≤ 4294967295) (hf : f ≤ 4294967295) (hi : i < n) (hk : k < 64) (hI : AskI w n f ga go gn gf k W) (h1 : ga ≠ go) (h2 : ga ≠ gn) (h3 : ga ≠ gf) (h4 : go ≠ gn) (h5 : go ≠ gf) (ha : w.heap.size ≤ ga) (ho : w.heap.size ≤ go) :
    Calls Try.prog 18 #[.int .i64 (i : Nat), .pointer (some ⟨ga, 0, none⟩), .pointer (some ⟨go, 0, none⟩), .pointer (some ⟨gn, 0, none⟩), .pointer (some ⟨gf, 0, none⟩)] W
      fun e w' => e = .returned (.bool (decide (f ≤ i))) ∧ AskI w n f ga go gn gf (k + 1) w' := by
  obtain ⟨a1, a2, a3, a4, a5⟩ := hI
  have c1 := cell_of_heap a1 0
  have c2 := cell_of_heap a2 0
  have c3 := cell_of_heap a3 0
  have c4 := cell_of_heap a4 0
  have f1 := froz_of_heap a1 0
  have f2 := froz_of_heap a2 0
  simp only [List.getElem?_toArray, List.getElem?_cons_zero] at c1 c2 c3 c4
  have A1 := Lib.hid a1
  have A2 := Lib.hid a2
  have A3 := Lib.hid a3
  have A4 := Lib.hid a4
  have A5 := Lib.hid a5
  clear a1 a2 a3 a4 a5
  have hd1 : decide ((i : Int) < 0) = false := by simp
  have hd2 : decide (n ≤ i) = false := by simp; omega
  go_enter Try.func18, Try.ntmps18
  go_wp2_with fail
  go_ret
  have b1 := set_heap_at (o := 0) (.int .i64 ((k : Int) + 1)) A1.out
  have b2 := (set_heap_other (o := 0) (.int .i64 ((k : Int) + 1)) (Ne.symm h1)).trans A2.out
  have b3 := (set_heap_other (o := 0) (.int .i64 ((k : Int) + 1)) (Ne.symm h2)).trans A3.out
  have b4 := (set_heap_other (o := 0) (.int .i64 ((k : Int) + 1)) (Ne.symm h3)).trans A4.out
  refine ⟨rfl, ⟨(set_heap_other _ h1).trans (b1.trans ?_), (set_heap_at _ b2).trans ?_, (set_heap_other _ (Ne.symm h4)).trans b3, (set_heap_other _ (Ne.symm h5)).trans b4, bset (bset A5.out ha _) ho _⟩⟩
  · simp
  · simp [hd1, hd2]
theorem enter_ask (args : Array Value) (w : World) : (callFunc 18 args).run Try.prog w = .ok (.enter 18 args) w := by kernel_rfl

set_option maxRecDepth 100000 in
set_option maxHeartbeats 3200000 in
theorem seekFirst_walk (n f : Nat) (w : World) (hn : n ≤ 4294967295) (hf : f ≤ 4294967295) :
    Calls Try.prog 5 #[.int .u32 (n : Nat), .int .u32 (f : Nat)] w fun e w' => e = .returned (.bool true) ∧ Below w.heap.size w w' := by
  have hAC := allocC
  have hAF := allocF
  have hmf : ∀ (fn : Fn) (first cap : Array Value) (w : World), (Instr.makeFunc fn first cap).run Try.prog w = .ok (.func fn first cap) w := fun _ _ _ _ => rfl
  go_enter Try.func5, Try.ntmps5
  go_wp2_with fail
  refine (speaks5_any _).mono ?_
  rintro e w1 ⟨rfl, hb1⟩
  have hz1 := hb1.size
  simp only [World.size_alloc] at hz1
  have n1 := (hb1.block w.heap.size (by simp; omega)).trans (by rw [heap_push, if_neg (by simp), heap_push, if_pos rfl] : _ = some (Obj.cells #[.int .u32 (n : Nat)] 34 (0, 0)))
  have n2 := (hb1.block (w.heap.size + 1) (by simp)).trans (by rw [heap_push, if_pos (by simp)] : _ = some (Obj.cells #[.int .u32 (f : Nat)] 34 (0, 0)))
  have HB1 := Lib.hid (show Below w.heap.size w w1 from (by repeat (first | exact brefl _ | assumption | refine balloc ?_ _ | refine bdrew ?_ _ | refine bdrew1 ?_ | refine bthen ?_ (by assumption) | refine Below.trans ?_ (by assumption) | (refine bset ?_ (by first | (simp; done) | (simp; omega)) _))))
  have N1 := Lib.hid n1
  have N2 := Lib.hid n2
  have c1 := cell_of_heap n1 0
  have c2 := cell_of_heap n2 0
  simp only [List.getElem?_toArray, List.getElem?_cons_zero] at c1 c2
  have l1 : w.heap.size < w1.heap.size := by omega
  have l2 : w.heap.size + 1 < w1.heap.size := by omega
  have e1 : ¬ w.heap.size = w1.heap.size := by omega
  have e2 : ¬ w.heap.size + 1 = w1.heap.size := by omega
  have e3 : ¬ w.heap.size = w1.heap.size + 1 := by omega
  have e4 : ¬ w.heap.size + 1 = w1.heap.size + 1 := by omega
  clear n1 n2 hb1
  go_wp2_with fail
  obtain ⟨W, hW⟩ : ∃ W, W = (w1.alloc (Obj.cells #[.int .i64 0] 3)).alloc (Obj.cells #[.bool false] 4) := ⟨_, rfl⟩
  have hbW : Below w1.heap.size w1 W := by rw [hW]; exact (by repeat (first | exact brefl _ | assumption | refine balloc ?_ _ | refine bdrew ?_ _ | refine bdrew1 ?_ | refine bthen ?_ (by assumption) | refine Below.trans ?_ (by assumption) | (refine bset ?_ (by first | (simp; done) | (simp; omega)) _)))
  have hI : AskI w n f w1.heap.size (w1.heap.size + 1) w.heap.size (w.heap.size + 1) 0 W :=
    ⟨by rw [hW, heap_push, if_neg (by simp), heap_push, if_pos rfl]; rfl, by rw [hW, heap_push, if_pos (by simp)], (hbW.block _ l1).trans N1.out, (hbW.block _ l2).trans N2.out, HB1.out.trans (hbW.mono HB1.out.size)⟩
  have HF := Lib.hid (first_any 18 #[.pointer (some ⟨w1.heap.size, 0, none⟩), .pointer (some ⟨w1.heap.size + 1, 0, none⟩), .pointer (some ⟨w.heap.size, 0, none⟩), .pointer (some ⟨w.heap.size + 1, 0, none⟩)] n (fun i => decide (f ≤ i)) (AskI w n f w1.heap.size (w1.heap.size + 1) w.heap.size (w.heap.size + 1)) W (by omega)
    (fun i j h1 h2 h3 => by simp only [decide_eq_true_eq] at *; omega) hI enter_ask
    (fun i k V hi hk hV => ask_any w n f _ _ _ _ i k V hn hf hi (by have := bitLen_le n; omega) hV (by omega) (by omega) (by omega) (by omega) (by omega) (by omega) (by omega)))
  rw [← hW]
  clear hW hbW hI c1 c2 N1 N2
  refine HF.out.mono ?_
  clear HF
  rintro e V ⟨r, k, hrn, hlo, hhi, hk, rfl, ⟨a1, a2, a3, a4, a5⟩⟩
  have hr : r = min n f := by
    rcases Nat.lt_or_ge r f with g | g
    · rcases Nat.lt_or_ge r n with g2 | g2
      · have := hhi r (Nat.le_refl _) g2
        simp only [decide_eq_true_eq] at this; omega
      · omega
    · rcases Nat.lt_or_ge f r with g2 | g2
      · have := hlo f g2
        simp only [decide_eq_false_iff_not] at this; omega
      · omega
  have c1 := cell_of_heap a1 0
  have c2 := cell_of_heap a2 0
  have c3 := cell_of_heap a3 0
  have c4 := cell_of_heap a4 0
  simp only [List.getElem?_toArray, List.getElem?_cons_zero] at c1 c2 c3 c4
  have A5 := Lib.hid a5
  have g1 := (Array.getElem?_eq_some_iff.1 a1).1
  have g2 := (Array.getElem?_eq_some_iff.1 a2).1
  have g3 := (Array.getElem?_eq_some_iff.1 a3).1
  have g4 := (Array.getElem?_eq_some_iff.1 a4).1
  have hk64 := bitLen_le n
  have HR := Lib.hid hr
  have HL := Lib.hid (fun W => len32_any n W hn)
  have hd : decide ((k : Nat) ≤ Lib.bitLen n) = true := by simp; exact hk
  have hd2 : ((r : Int) == min (n : Int) (f : Int)) = true := by simp; omega
  clear hlo hhi hr a1 a2 a3 a4 a5
  generalize Lib.bitLen n = L at *
  go_wp2_with fail
  refine wp_region_tree (.step 0 (.step 1 (.step 2 (.step 3 (.step 4 (.step 5 (.step 6 (.step 7 (.step 8 (.step 9 (.step 10 (.step 11 (.step 12 (.step 13 (.step 14 (.step 15 (.step 16 (.step 17 .nil)))))))))))))))))) (by kernel_rfl) (by kernel_rfl) (by kernel_rfl) (by kernel_rfl) (by intro _ _ d_ _ _ h_; cases d_ <;> first | exact h_ | (dsimp +zetaDelta only at h_ ⊢; exact h_)) (fun w' => ∃ p : Wld V [], w' = p.val) (wld_start _ _) ?_
  have hG_ := @wldC V
  (refine tree_quiet (by simp only [List.getElem?_toArray, List.getElem?_cons_succ, List.getElem?_cons_zero]; rfl) (by rfl) (by rfl) (fun K_ hK_ => ?_); go_big_quiet_op; refine hK_ _ ?_; clear hK_ K_)
  (refine tree_quiet (by simp only [List.getElem?_toArray, List.getElem?_cons_succ, List.getElem?_cons_zero]; rfl) (by rfl) (by rfl) (fun K_ hK_ => ?_); go_big_quiet_op; refine hK_ _ ?_; clear hK_ K_)
  (refine tree_quiet (by simp only [List.getElem?_toArray, List.getElem?_cons_succ, List.getElem?_cons_zero]; rfl) (by rfl) (by rfl) (fun K_ hK_ => ?_); go_big_quiet_op; refine hK_ _ ?_; clear hK_ K_)
  (refine tree_quiet (by simp only [List.getElem?_toArray, List.getElem?_cons_succ, List.getElem?_cons_zero]; rfl) (by rfl) (by rfl) (fun K_ hK_ => ?_); go_big_quiet_op; refine hK_ _ ?_; clear hK_ K_)
  (refine tree_quiet (by simp only [List.getElem?_toArray, List.getElem?_cons_succ, List.getElem?_cons_zero]; rfl) (by rfl) (by rfl) (fun K_ hK_ => ?_); go_big_quiet_op; refine hK_ _ ?_; clear hK_ K_)
  (refine tree_quiet (by simp only [List.getElem?_toArray, List.getElem?_cons_succ, List.getElem?_cons_zero]; rfl) (by rfl) (by rfl) (fun K_ hK_ => ?_); go_big_quiet_op; refine hK_ _ ?_; clear hK_ K_)
  (refine tree_quiet (by simp only [List.getElem?_toArray, List.getElem?_cons_succ, List.getElem?_cons_zero]; rfl) (by rfl) (by rfl) (fun K_ hK_ => ?_); go_big_quiet_op; refine hK_ _ ?_; clear hK_ K_)
  (refine tree_quiet (by simp only [List.getElem?_toArray, List.getElem?_cons_succ, List.getElem?_cons_zero]; rfl) (by rfl) (by rfl) (fun K_ hK_ => ?_); go_big_quiet_op; refine hK_ _ ?_; clear hK_ K_)
  first | (refine tree_skip (by simp only [List.getElem?_toArray, List.getElem?_cons_succ, List.getElem?_cons_zero]; rfl) (by rfl) ?_; dsimp only [Act.put]; simp only [List.setIfInBounds_toArray, List.set_cons_succ, List.set_cons_zero]) | (refine tree_quiet (by simp only [List.getElem?_toArray, List.getElem?_cons_succ, List.getElem?_cons_zero]; rfl) (by rfl) (by rfl) (fun K_ hK_ => ?_); go_big_quiet_op; refine hK_ _ ?_; clear hK_ K_)
  first | (refine tree_skip (by simp only [List.getElem?_toArray, List.getElem?_cons_succ, List.getElem?_cons_zero]; rfl) (by rfl) ?_; dsimp only [Act.put]; simp only [List.setIfInBounds_toArray, List.set_cons_succ, List.set_cons_zero]) | (refine tree_quiet (by simp only [List.getElem?_toArray, List.getElem?_cons_succ, List.getElem?_cons_zero]; rfl) (by rfl) (by rfl) (fun K_ hK_ => ?_); go_big_quiet_op; refine hK_ _ ?_; clear hK_ K_)
  (refine tree_quiet (by simp only [List.getElem?_toArray, List.getElem?_cons_succ, List.getElem?_cons_zero]; rfl) (by rfl) (by rfl) (fun K_ hK_ => ?_); go_big_quiet_op; refine hK_ _ ?_; clear hK_ K_)
  (refine tree_quiet (by simp only [List.getElem?_toArray, List.getElem?_cons_succ, List.getElem?_cons_zero]; rfl) (by rfl) (by rfl) (fun K_ hK_ => ?_); go_big_quiet_op; refine hK_ _ ?_; clear hK_ K_)
  first | (refine tree_skip (by simp only [List.getElem?_toArray, List.getElem?_cons_succ, List.getElem?_cons_zero]; rfl) (by rfl) ?_; dsimp only [Act.put]; simp only [List.setIfInBounds_toArray, List.set_cons_succ, List.set_cons_zero]) | (refine tree_quiet (by simp only [List.getElem?_toArray, List.getElem?_cons_succ, List.getElem?_cons_zero]; rfl) (by rfl) (by rfl) (fun K_ hK_ => ?_); go_big_quiet_op; refine hK_ _ ?_; clear hK_ K_)
  first | (refine tree_skip (by simp only [List.getElem?_toArray, List.getElem?_cons_succ, List.getElem?_cons_zero]; rfl) (by rfl) ?_; dsimp only [Act.put]; simp only [List.setIfInBounds_toArray, List.set_cons_succ, List.set_cons_zero]) | (refine tree_quiet (by simp only [List.getElem?_toArray, List.getElem?_cons_succ, List.getElem?_cons_zero]; rfl) (by rfl) (by rfl) (fun K_ hK_ => ?_); go_big_quiet_op; refine hK_ _ ?_; clear hK_ K_)
  first | (refine tree_skip (by simp only [List.getElem?_toArray, List.getElem?_cons_succ, List.getElem?_cons_zero]; rfl) (by rfl) ?_; dsimp only [Act.put]; simp only [List.setIfInBounds_toArray, List.set_cons_succ, List.set_cons_zero]) | (refine tree_run (by simp only [List.getElem?_toArray, List.getElem?_cons_succ, List.getElem?_cons_zero]; rfl) (by rfl) (by rfl) (fun K_ hK_ => ?_); have HK_ := Lib.hid hK_; clear hK_; go_wp2_with ((go_at_call 19; refine (HL.out _).mono ?_; rintro e w_ ⟨rfl, rfl⟩)); refine HK_.out _ _ (wld_of (by repeat (first | exact same_below (brefl _) | exact same_realloc (by simp) | exact same_below (bdrew1 (brefl _)) | assumption | refine same_drew ?_ | refine same_then ?_ (by assumption) | refine same_alloc ?_ _ | (refine same_set ?_ (by first | (left; simp; done) | (right; simp; done) | (right; simp; omega)) _)))) ?_; clear HK_)
  first | (refine tree_skip (by simp only [List.getElem?_toArray, List.getElem?_cons_succ, List.getElem?_cons_zero]; rfl) (by rfl) ?_; dsimp only [Act.put]; simp only [List.setIfInBounds_toArray, List.set_cons_succ, List.set_cons_zero]) | (refine tree_quiet (by simp only [List.getElem?_toArray, List.getElem?_cons_succ, List.getElem?_cons_zero]; rfl) (by rfl) (by rfl) (fun K_ hK_ => ?_); go_big_quiet_op; refine hK_ _ ?_; clear hK_ K_)
  (refine tree_quiet (by simp only [List.getElem?_toArray, List.getElem?_cons_succ, List.getElem?_cons_zero]; rfl) (by rfl) (by rfl) (fun K_ hK_ => ?_); go_big_quiet_op; refine hK_ _ ?_; clear hK_ K_)
  (refine tree_quiet (by simp only [List.getElem?_toArray, List.getElem?_cons_succ, List.getElem?_cons_zero]; rfl) (by rfl) (by rfl) (fun K_ hK_ => ?_); go_big_quiet_op; refine hK_ _ ?_; clear hK_ K_)
  refine tree_nil ?_
  clear hG_
  go_wp2
  go_ret
  exact ⟨rfl, A5.out.drew⟩
end Go.Proofs.Ytgfhmpcfpjioaaa
