/- The walk of ViewCuts. -/
import Derived.Test.YtfgkmgabldjpaaaCut2
import Derived.Test.YtfgkmgabldjpaaaRef1
import Derived.Test.YtfgkmgabldjpaaaRef2
import Derived.Test.YtfgkmgabldjpaaaLaw1
namespace Go.Proofs.Ytfgkmgabldjpaaa
open Go.RowKit

theorem idx3_0 (x0 x1 x2 : Value) (w : World) : (Instr.index 33 (.agg #[x0, x1, x2]) (.int .i64 0)).run Try.prog w = .ok x0 w := by kernel_rfl
theorem idx3_1 (x0 x1 x2 : Value) (w : World) : (Instr.index 33 (.agg #[x0, x1, x2]) (.int .i64 1)).run Try.prog w = .ok x1 w := by kernel_rfl
theorem idx3_2 (x0 x1 x2 : Value) (w : World) : (Instr.index 33 (.agg #[x0, x1, x2]) (.int .i64 2)).run Try.prog w = .ok x2 w := by kernel_rfl
theorem Has.same {w w' : World} {a : Option Addr} {xs : List Value} (h : Has w a xs) (hs : Same w [] w') : Has w' a xs := by
  intro j u hu
  obtain ⟨p, hp, hc⟩ := h j u hu
  refine ⟨p, hp, ?_⟩
  rw [World.cell?_of_block (hs.block (p.add j).block (cell_lt hc) (by simp))]
  exact hc
theorem has_adv_take {w : World} {a : Option Addr} {bs : List UInt8} {n c j q : Nat} (h : Has w a (bytesV bs)) (hl : bs.length = n) (hq : j + q ≤ n) (hn : n ≤ c) : Has w (adv a c j) (bytesV ((bs.drop j).take q)) := by
  have h1 := (h.adv c j (by rw [bytesV_length, hl]; omega)).take q
  rw [bytesV_drop, bytesV_take] at h1
  exact h1
theorem cut_in (kd : Nat) (hkd : kd ≤ 2) (a : Option Addr) (n c : Nat) (bs : List UInt8) (k m s : Int) (q : Nat) (w : World) (hf : fitK n kd k m s) (hq : lenK n kd k m s = q) (h : Has w a (bytesV bs)) (hl : bs.length = n) (hn : n ≤ c) (hc : c ≤ maxLen) (hm : n ≤ 1000)
    (hs1 : m ≤ 9223372036854775807) (hs2 : s ≤ 9223372036854775807) :
    Calls Try.prog 17 #[.slice a n c, .int .i64 kd, .agg #[.int .i64 k, .int .i64 m, .int .i64 s]] w fun e w' =>
      ∃ a' c', e = .returned (.tuple #[.slice a' q c', .int .i64 q, .bool true]) ∧ Has w' a' (bytesV ((bs.drop k.toNat).take q)) ∧ q ≤ c' ∧ c' ≤ maxLen ∧ Below w.heap.size w w' := by
  have hle := (lenK_le hf).2
  rw [hq] at hle
  have hlen : ((bs.drop k.toNat).take q).length = q := by rw [List.length_take, List.length_drop, hl]; omega
  refine (cut_any kd hkd a n c bs k m s w h hl hn hc hm hs1 hs2).mono fun e w' hr => ?_
  rw [hq] at hr
  rcases hr with ⟨_, a', c', he, hown, k1, k2, _, hb⟩ | ⟨hno, _, _⟩
  · rw [hlen] at he hown k1
    exact ⟨a', c', he, has_of_owns hown, k1, k2, hb⟩
  · exact absurd hf hno
theorem cut_out (kd : Nat) (hkd : kd ≤ 2) (a : Option Addr) (n c : Nat) (bs : List UInt8) (k m s : Int) (w : World) (hf : ¬ fitK n kd k m s) (h : Has w a (bytesV bs)) (hl : bs.length = n) (hn : n ≤ c) (hc : c ≤ maxLen) (hm : n ≤ 1000)
    (hs1 : m ≤ 9223372036854775807) (hs2 : s ≤ 9223372036854775807) :
    Calls Try.prog 17 #[.slice a n c, .int .i64 kd, .agg #[.int .i64 k, .int .i64 m, .int .i64 s]] w fun e w' =>
      e = .returned (.tuple #[.slice none 0 0, .int .i64 0, .bool false]) ∧ Below w.heap.size w w' := by
  refine (cut_any kd hkd a n c bs k m s w h hl hn hc hm hs1 hs2).mono fun e w' hr => ?_
  rcases hr with ⟨hf', _⟩ | ⟨_, he, hb⟩
  · exact absurd hf' hf
  · exact ⟨he, hb⟩
def CutsRel (w1 : World) (i : Value) (wr : World) : Prop := ∃ j : Nat, j ≤ 3 ∧ i = .int .i64 j ∧ Below w1.heap.size w1 wr

set_option maxRecDepth 100000 in
set_option maxHeartbeats 8000000 in
theorem viewCuts_walk (a : Option Addr) (n c : Nat) (bs : List UInt8) (k m s : Int) (w : World) (h : Has w a (bytesV bs)) (hl : bs.length = n) (hn : n ≤ c) (hc : c ≤ maxLen)
    (hk : -9223372036854775808 ≤ k ∧ k ≤ 9223372036854775807) (hm : -9223372036854775808 ≤ m ∧ m ≤ 9223372036854775807) (hs : -9223372036854775808 ≤ s ∧ s ≤ 9223372036854775807) :
    Calls Try.prog 4 #[.slice a n c, .agg #[.int .i64 k, .int .i64 m, .int .i64 s]] w fun e w' => e = .returned (.bool true) ∧ Below w.heap.size w w' := by
  have hAC := allocC
  have hAF := allocF
  have hnm : n ≤ maxLen := Nat.le_trans hn hc
  by_cases hbig : 1000 < n
  · clear h hl
    unfold maxLen at hc hnm
    obtain ⟨_, _⟩ := hk
    obtain ⟨_, _⟩ := hm
    obtain ⟨_, _⟩ := hs
    go_enter Try.func4, Try.ntmps4
    go_wp2_with (first | (go_at_call 10; refine (speaks_any _).mono ?_; rintro e w1 ⟨rfl, hb1⟩; have h1c := bc hb1; have h1f := bf hb1; have h1z := hb1.size; try simp only [World.size_alloc, World.size_drew] at h1z))
    go_ret
    exact ⟨rfl, (by repeat (first | exact brefl _ | assumption | refine balloc ?_ _ | refine bdrew ?_ _ | refine bdrew1 ?_ | refine bthen ?_ (by assumption) | refine Below.trans ?_ (by assumption) | (refine bset ?_ (by first | (simp; done) | (simp; omega)) _)))⟩
  have hn1 : n ≤ 1000 := by omega
  have HH := Lib.hid h
  have HL := Lib.hid hl
  obtain ⟨B2, hB2⟩ : ∃ B : Bool, B = true ↔ fitK n 2 k m s := by
    by_cases hf : fitK n 2 k m s
    · exact ⟨true, by simp [hf]⟩
    · exact ⟨false, by simp [hf]⟩
  obtain ⟨B0, hB0⟩ : ∃ B : Bool, B = decide (0 ≤ k ∧ 0 ≤ m ∧ k ≤ n ∧ m ≤ n - k) := ⟨_, rfl⟩
  have r0 := fun w => in_any n k m w hnm hk hm
  rw [← hB0] at r0
  have R0 := Lib.hid r0
  have R2 := Lib.hid fun w => rref_any n k m s B2 hB2 w hnm hk hm hs
  have HB0 := Lib.hid hB0
  have HB2 := Lib.hid hB2
  clear r0 hB0 hB2 h hl
  have HK := Lib.hid hk
  have HM := Lib.hid hm
  have HS := Lib.hid hs
  clear hk hm hs
  have hi : ∀ j, j < 3 → (w.alloc (Obj.cells #[.int .i64 k, .int .i64 m, .int .i64 s] 30)).cell? ⟨w.heap.size, j, none⟩ = some (.int .i64 ([k, m, s].getD j 0)) := by
    intro j hj
    match j, hj with
    | 0, _ => simp [hAC]
    | 1, _ => simp [hAC]
    | 2, _ => simp [hAC]
  have HI := Lib.hid hi
  clear hi
  go_enter Try.func4, Try.ntmps4
  go_wp2_with (first | (go_at_call 10; refine (speaks_any _).mono ?_; rintro e w1 ⟨rfl, hb1⟩; have h1c := bc hb1; have h1f := bf hb1; have h1z := hb1.size; try simp only [World.size_alloc, World.size_drew] at h1z))
  have g0 := (hb1.cell (p := ⟨w.heap.size, 0, none⟩) (by simp)).trans (HI.out 0 (by omega))
  have g1 := (hb1.cell (p := ⟨w.heap.size, 1, none⟩) (by simp)).trans (HI.out 1 (by omega))
  have g2 := (hb1.cell (p := ⟨w.heap.size, 2, none⟩) (by simp)).trans (HI.out 2 (by omega))
  simp only [List.getD_cons_zero, List.getD_cons_succ] at g0 g1 g2
  clear h1c h1f
  go_quiet (fail)
  obtain ⟨V, hV⟩ : ∃ V, V = w1.drewN nq := ⟨_, rfl⟩
  have hb : Below w.heap.size w V := by rw [hV]; exact (by repeat (first | exact brefl _ | assumption | refine balloc ?_ _ | refine bdrew ?_ _ | refine bdrew1 ?_ | refine bthen ?_ (by assumption) | refine Below.trans ?_ (by assumption) | (refine bset ?_ (by first | (simp; done) | (simp; omega)) _)))
  have v0 : V.cell? ⟨w.heap.size, 0, none⟩ = some (.int .i64 k) := by rw [hV]; simpa using g0
  have v1 : V.cell? ⟨w.heap.size, 1, none⟩ = some (.int .i64 m) := by rw [hV]; simpa using g1
  have v2 : V.cell? ⟨w.heap.size, 2, none⟩ = some (.int .i64 s) := by rw [hV]; simpa using g2
  have vz : w.heap.size + 1 ≤ V.heap.size := by rw [hV]; simpa using h1z
  rw [← hV]
  clear hV g0 g1 g2 hb1 h1z
  have HB := Lib.hid hb
  clear hb
  by_cases hk0 : 0 ≤ k
  · by_cases hkn : k ≤ n
    · have HF1 := Lib.hid (show fitK n 1 k m s from ⟨hk0, hkn⟩)
      go_wp2_with fail
      apply cutP
      · intro hfin_
        refine wp_region_tree (.step 0 (.step 1 (.step 2 (.step 3 (.step 5 (.step 6 (.step 13 (.step 14 (.step 15 (.step 16 (.step 17 (.step 18 (.two 4 (.step 7 (.step 8 (.step 9 (.step 10 (.step 11 (.step 12 (.two 19 (.step 20 (.step 21 (.step 22 .nil))) 21 (.step 19 (.step 20 (.step 22 .nil)))))))))) 21 (.step 4 (.step 7 (.step 8 (.step 9 (.step 10 (.step 11 (.step 12 (.step 19 (.step 20 (.step 22 .nil))))))))))))))))))))))) (by kernel_rfl) (by kernel_rfl) (by kernel_rfl) (by kernel_rfl) (by intro _ _ d_ _ _ h_; cases d_ <;> first | exact h_ | (dsimp +zetaDelta only at h_ ⊢; exact h_)) (fun w' => ∃ p : Wld V [], w' = p.val) (wld_start _ _) ?_
        have hG_ := @wldC V
        (refine tree_quiet (by simp only [List.getElem?_toArray, List.getElem?_cons_succ, List.getElem?_cons_zero]; rfl) (by rfl) (by rfl) (fun K_ hK_ => ?_); go_big_quiet_op; refine hK_ _ ?_; clear hK_ K_)
        (refine tree_quiet (by simp only [List.getElem?_toArray, List.getElem?_cons_succ, List.getElem?_cons_zero]; rfl) (by rfl) (by rfl) (fun K_ hK_ => ?_); go_big_quiet_op; refine hK_ _ ?_; clear hK_ K_)
        (refine tree_quiet (by simp only [List.getElem?_toArray, List.getElem?_cons_succ, List.getElem?_cons_zero]; rfl) (by rfl) (by rfl) (fun K_ hK_ => ?_); go_big_quiet_op; refine hK_ _ ?_; clear hK_ K_)
        (refine tree_quiet (by simp only [List.getElem?_toArray, List.getElem?_cons_succ, List.getElem?_cons_zero]; rfl) (by rfl) (by rfl) (fun K_ hK_ => ?_); go_big_quiet_op; refine hK_ _ ?_; clear hK_ K_)
        (refine tree_quiet (by simp only [List.getElem?_toArray, List.getElem?_cons_succ, List.getElem?_cons_zero]; rfl) (by rfl) (by rfl) (fun K_ hK_ => ?_); go_big_quiet_op; refine hK_ _ ?_; clear hK_ K_)
        (refine tree_quiet (by simp only [List.getElem?_toArray, List.getElem?_cons_succ, List.getElem?_cons_zero]; rfl) (by rfl) (by rfl) (fun K_ hK_ => ?_); go_big_quiet_op; refine hK_ _ ?_; clear hK_ K_)
        (refine tree_quiet (by simp only [List.getElem?_toArray, List.getElem?_cons_succ, List.getElem?_cons_zero]; rfl) (by rfl) (by rfl) (fun K_ hK_ => ?_); go_big_quiet_op; refine hK_ _ ?_; clear hK_ K_)
        (refine tree_quiet (by simp only [List.getElem?_toArray, List.getElem?_cons_succ, List.getElem?_cons_zero]; rfl) (by rfl) (by rfl) (fun K_ hK_ => ?_); go_big_quiet_op; refine hK_ _ ?_; clear hK_ K_)
        (refine tree_quiet (by simp only [List.getElem?_toArray, List.getElem?_cons_succ, List.getElem?_cons_zero]; rfl) (by rfl) (by rfl) (fun K_ hK_ => ?_); go_big_quiet_op; refine hK_ _ ?_; clear hK_ K_)
        (refine tree_quiet (by simp only [List.getElem?_toArray, List.getElem?_cons_succ, List.getElem?_cons_zero]; rfl) (by rfl) (by rfl) (fun K_ hK_ => ?_); go_big_quiet_op; refine hK_ _ ?_; clear hK_ K_)
        (refine tree_quiet (by simp only [List.getElem?_toArray, List.getElem?_cons_succ, List.getElem?_cons_zero]; rfl) (by rfl) (by rfl) (fun K_ hK_ => ?_); go_big_quiet_op; refine hK_ _ ?_; clear hK_ K_)
        (refine tree_quiet (by simp only [List.getElem?_toArray, List.getElem?_cons_succ, List.getElem?_cons_zero]; rfl) (by rfl) (by rfl) (fun K_ hK_ => ?_); go_big_quiet_op; refine hK_ _ ?_; clear hK_ K_)
        refine tree_two (by simp only [List.getElem?_toArray, List.getElem?_cons_succ, List.getElem?_cons_zero]; rfl) (by simp only [List.getElem?_toArray, List.getElem?_cons_succ, List.getElem?_cons_zero]; rfl) (by rfl) (by rfl) (fun K_ hK_ => ?_) (fun K_ hK_ => ?_)
        · have HK_ := Lib.hid hK_; clear hK_; go_wp2_with (first
        | (go_at_call 15; refine (R0.out _).mono ?_; rintro e w_ ⟨rfl, rfl⟩)
        | (go_at_call 16; refine (R2.out _).mono ?_; rintro e w_ ⟨rfl, rfl⟩)); refine HK_.out _ _ (wld_of (by repeat (first | exact same_below (brefl _) | exact same_below (bdrew1 (brefl _)) | assumption | refine same_drew ?_ | refine same_then ?_ (by assumption) | refine same_alloc ?_ _ | (refine same_set ?_ (by first | (left; simp; done) | (right; simp; done) | (right; simp; omega)) _)))) ?_; clear HK_
          (refine tree_quiet (by simp only [List.getElem?_toArray, List.getElem?_cons_succ, List.getElem?_cons_zero]; rfl) (by rfl) (by rfl) (fun K_ hK_ => ?_); go_big_quiet_op; refine hK_ _ ?_; clear hK_ K_)
          first | (refine tree_skip (by simp only [List.getElem?_toArray, List.getElem?_cons_succ, List.getElem?_cons_zero]; rfl) (by rfl) ?_; dsimp only [Act.put]; simp only [List.setIfInBounds_toArray, List.set_cons_succ, List.set_cons_zero]) | (refine tree_quiet (by simp only [List.getElem?_toArray, List.getElem?_cons_succ, List.getElem?_cons_zero]; rfl) (by rfl) (by rfl) (fun K_ hK_ => ?_); go_big_quiet_op; refine hK_ _ ?_; clear hK_ K_)
          first | (refine tree_skip (by simp only [List.getElem?_toArray, List.getElem?_cons_succ, List.getElem?_cons_zero]; rfl) (by rfl) ?_; dsimp only [Act.put]; simp only [List.setIfInBounds_toArray, List.set_cons_succ, List.set_cons_zero]) | (refine tree_quiet (by simp only [List.getElem?_toArray, List.getElem?_cons_succ, List.getElem?_cons_zero]; rfl) (by rfl) (by rfl) (fun K_ hK_ => ?_); go_big_quiet_op; refine hK_ _ ?_; clear hK_ K_)
          first | (refine tree_skip (by simp only [List.getElem?_toArray, List.getElem?_cons_succ, List.getElem?_cons_zero]; rfl) (by rfl) ?_; dsimp only [Act.put]; simp only [List.setIfInBounds_toArray, List.set_cons_succ, List.set_cons_zero]) | (refine tree_quiet (by simp only [List.getElem?_toArray, List.getElem?_cons_succ, List.getElem?_cons_zero]; rfl) (by rfl) (by rfl) (fun K_ hK_ => ?_); go_big_quiet_op; refine hK_ _ ?_; clear hK_ K_)
          first | (refine tree_skip (by simp only [List.getElem?_toArray, List.getElem?_cons_succ, List.getElem?_cons_zero]; rfl) (by rfl) ?_; dsimp only [Act.put]; simp only [List.setIfInBounds_toArray, List.set_cons_succ, List.set_cons_zero]) | (refine tree_quiet (by simp only [List.getElem?_toArray, List.getElem?_cons_succ, List.getElem?_cons_zero]; rfl) (by rfl) (by rfl) (fun K_ hK_ => ?_); go_big_quiet_op; refine hK_ _ ?_; clear hK_ K_)
          (refine tree_quiet (by simp only [List.getElem?_toArray, List.getElem?_cons_succ, List.getElem?_cons_zero]; rfl) (by rfl) (by rfl) (fun K_ hK_ => ?_); go_big_quiet_op; refine hK_ _ ?_; clear hK_ K_)
          refine tree_two (by simp only [List.getElem?_toArray, List.getElem?_cons_succ, List.getElem?_cons_zero]; rfl) (by simp only [List.getElem?_toArray, List.getElem?_cons_succ, List.getElem?_cons_zero]; rfl) (by rfl) (by rfl) (fun K_ hK_ => ?_) (fun K_ hK_ => ?_)
          · have HK_ := Lib.hid hK_; clear hK_; go_wp2_with (first
        | (go_at_call 15; refine (R0.out _).mono ?_; rintro e w_ ⟨rfl, rfl⟩)
        | (go_at_call 16; refine (R2.out _).mono ?_; rintro e w_ ⟨rfl, rfl⟩)); refine HK_.out _ _ (wld_of (by repeat (first | exact same_below (brefl _) | exact same_below (bdrew1 (brefl _)) | assumption | refine same_drew ?_ | refine same_then ?_ (by assumption) | refine same_alloc ?_ _ | (refine same_set ?_ (by first | (left; simp; done) | (right; simp; done) | (right; simp; omega)) _)))) ?_; clear HK_
            (refine tree_quiet (by simp only [List.getElem?_toArray, List.getElem?_cons_succ, List.getElem?_cons_zero]; rfl) (by rfl) (by rfl) (fun K_ hK_ => ?_); go_big_quiet_op; refine hK_ _ ?_; clear hK_ K_)
            (refine tree_run (by simp only [List.getElem?_toArray, List.getElem?_cons_succ, List.getElem?_cons_zero]; rfl) (by rfl) (by rfl) (fun K_ hK_ => ?_); have HK_ := Lib.hid hK_; clear hK_; go_wp2_with (first
        | (go_at_call 15; refine (R0.out _).mono ?_; rintro e w_ ⟨rfl, rfl⟩)
        | (go_at_call 16; refine (R2.out _).mono ?_; rintro e w_ ⟨rfl, rfl⟩)); refine HK_.out _ _ (wld_of (by repeat (first | exact same_below (brefl _) | exact same_below (bdrew1 (brefl _)) | assumption | refine same_drew ?_ | refine same_then ?_ (by assumption) | refine same_alloc ?_ _ | (refine same_set ?_ (by first | (left; simp; done) | (right; simp; done) | (right; simp; omega)) _)))) ?_; clear HK_)
            (refine tree_run (by simp only [List.getElem?_toArray, List.getElem?_cons_succ, List.getElem?_cons_zero]; rfl) (by rfl) (by rfl) (fun K_ hK_ => ?_); have HK_ := Lib.hid hK_; clear hK_; go_wp2_with (first
        | (go_at_call 15; refine (R0.out _).mono ?_; rintro e w_ ⟨rfl, rfl⟩)
        | (go_at_call 16; refine (R2.out _).mono ?_; rintro e w_ ⟨rfl, rfl⟩)); refine HK_.out _ _ (wld_of (by repeat (first | exact same_below (brefl _) | exact same_below (bdrew1 (brefl _)) | assumption | refine same_drew ?_ | refine same_then ?_ (by assumption) | refine same_alloc ?_ _ | (refine same_set ?_ (by first | (left; simp; done) | (right; simp; done) | (right; simp; omega)) _)))) ?_; clear HK_)
            refine tree_nil ?_
            clear hG_
            exact hfin_ ()
          · have HK_ := Lib.hid hK_; clear hK_; go_wp2_with (first
        | (go_at_call 15; refine (R0.out _).mono ?_; rintro e w_ ⟨rfl, rfl⟩)
        | (go_at_call 16; refine (R2.out _).mono ?_; rintro e w_ ⟨rfl, rfl⟩)); refine HK_.out _ _ (wld_of (by repeat (first | exact same_below (brefl _) | exact same_below (bdrew1 (brefl _)) | assumption | refine same_drew ?_ | refine same_then ?_ (by assumption) | refine same_alloc ?_ _ | (refine same_set ?_ (by first | (left; simp; done) | (right; simp; done) | (right; simp; omega)) _)))) ?_; clear HK_
            (refine tree_run (by simp only [List.getElem?_toArray, List.getElem?_cons_succ, List.getElem?_cons_zero]; rfl) (by rfl) (by rfl) (fun K_ hK_ => ?_); have HK_ := Lib.hid hK_; clear hK_; go_wp2_with (first
        | (go_at_call 15; refine (R0.out _).mono ?_; rintro e w_ ⟨rfl, rfl⟩)
        | (go_at_call 16; refine (R2.out _).mono ?_; rintro e w_ ⟨rfl, rfl⟩)); refine HK_.out _ _ (wld_of (by repeat (first | exact same_below (brefl _) | exact same_below (bdrew1 (brefl _)) | assumption | refine same_drew ?_ | refine same_then ?_ (by assumption) | refine same_alloc ?_ _ | (refine same_set ?_ (by first | (left; simp; done) | (right; simp; done) | (right; simp; omega)) _)))) ?_; clear HK_)
            (refine tree_quiet (by simp only [List.getElem?_toArray, List.getElem?_cons_succ, List.getElem?_cons_zero]; rfl) (by rfl) (by rfl) (fun K_ hK_ => ?_); go_big_quiet_op; refine hK_ _ ?_; clear hK_ K_)
            (refine tree_run (by simp only [List.getElem?_toArray, List.getElem?_cons_succ, List.getElem?_cons_zero]; rfl) (by rfl) (by rfl) (fun K_ hK_ => ?_); have HK_ := Lib.hid hK_; clear hK_; go_wp2_with (first
        | (go_at_call 15; refine (R0.out _).mono ?_; rintro e w_ ⟨rfl, rfl⟩)
        | (go_at_call 16; refine (R2.out _).mono ?_; rintro e w_ ⟨rfl, rfl⟩)); refine HK_.out _ _ (wld_of (by repeat (first | exact same_below (brefl _) | exact same_below (bdrew1 (brefl _)) | assumption | refine same_drew ?_ | refine same_then ?_ (by assumption) | refine same_alloc ?_ _ | (refine same_set ?_ (by first | (left; simp; done) | (right; simp; done) | (right; simp; omega)) _)))) ?_; clear HK_)
            refine tree_nil ?_
            clear hG_
            exact hfin_ ()
        · have HK_ := Lib.hid hK_; clear hK_; go_wp2_with (first
        | (go_at_call 15; refine (R0.out _).mono ?_; rintro e w_ ⟨rfl, rfl⟩)
        | (go_at_call 16; refine (R2.out _).mono ?_; rintro e w_ ⟨rfl, rfl⟩)); refine HK_.out _ _ (wld_of (by repeat (first | exact same_below (brefl _) | exact same_below (bdrew1 (brefl _)) | assumption | refine same_drew ?_ | refine same_then ?_ (by assumption) | refine same_alloc ?_ _ | (refine same_set ?_ (by first | (left; simp; done) | (right; simp; done) | (right; simp; omega)) _)))) ?_; clear HK_
          (refine tree_run (by simp only [List.getElem?_toArray, List.getElem?_cons_succ, List.getElem?_cons_zero]; rfl) (by rfl) (by rfl) (fun K_ hK_ => ?_); have HK_ := Lib.hid hK_; clear hK_; go_wp2_with (first
        | (go_at_call 15; refine (R0.out _).mono ?_; rintro e w_ ⟨rfl, rfl⟩)
        | (go_at_call 16; refine (R2.out _).mono ?_; rintro e w_ ⟨rfl, rfl⟩)); refine HK_.out _ _ (wld_of (by repeat (first | exact same_below (brefl _) | exact same_below (bdrew1 (brefl _)) | assumption | refine same_drew ?_ | refine same_then ?_ (by assumption) | refine same_alloc ?_ _ | (refine same_set ?_ (by first | (left; simp; done) | (right; simp; done) | (right; simp; omega)) _)))) ?_; clear HK_)
          (refine tree_quiet (by simp only [List.getElem?_toArray, List.getElem?_cons_succ, List.getElem?_cons_zero]; rfl) (by rfl) (by rfl) (fun K_ hK_ => ?_); go_big_quiet_op; refine hK_ _ ?_; clear hK_ K_)
          first | (refine tree_skip (by simp only [List.getElem?_toArray, List.getElem?_cons_succ, List.getElem?_cons_zero]; rfl) (by rfl) ?_; dsimp only [Act.put]; simp only [List.setIfInBounds_toArray, List.set_cons_succ, List.set_cons_zero]) | (refine tree_quiet (by simp only [List.getElem?_toArray, List.getElem?_cons_succ, List.getElem?_cons_zero]; rfl) (by rfl) (by rfl) (fun K_ hK_ => ?_); go_big_quiet_op; refine hK_ _ ?_; clear hK_ K_)
          first | (refine tree_skip (by simp only [List.getElem?_toArray, List.getElem?_cons_succ, List.getElem?_cons_zero]; rfl) (by rfl) ?_; dsimp only [Act.put]; simp only [List.setIfInBounds_toArray, List.set_cons_succ, List.set_cons_zero]) | (refine tree_quiet (by simp only [List.getElem?_toArray, List.getElem?_cons_succ, List.getElem?_cons_zero]; rfl) (by rfl) (by rfl) (fun K_ hK_ => ?_); go_big_quiet_op; refine hK_ _ ?_; clear hK_ K_)
          first | (refine tree_skip (by simp only [List.getElem?_toArray, List.getElem?_cons_succ, List.getElem?_cons_zero]; rfl) (by rfl) ?_; dsimp only [Act.put]; simp only [List.setIfInBounds_toArray, List.set_cons_succ, List.set_cons_zero]) | (refine tree_quiet (by simp only [List.getElem?_toArray, List.getElem?_cons_succ, List.getElem?_cons_zero]; rfl) (by rfl) (by rfl) (fun K_ hK_ => ?_); go_big_quiet_op; refine hK_ _ ?_; clear hK_ K_)
          first | (refine tree_skip (by simp only [List.getElem?_toArray, List.getElem?_cons_succ, List.getElem?_cons_zero]; rfl) (by rfl) ?_; dsimp only [Act.put]; simp only [List.setIfInBounds_toArray, List.set_cons_succ, List.set_cons_zero]) | (refine tree_quiet (by simp only [List.getElem?_toArray, List.getElem?_cons_succ, List.getElem?_cons_zero]; rfl) (by rfl) (by rfl) (fun K_ hK_ => ?_); go_big_quiet_op; refine hK_ _ ?_; clear hK_ K_)
          (refine tree_quiet (by simp only [List.getElem?_toArray, List.getElem?_cons_succ, List.getElem?_cons_zero]; rfl) (by rfl) (by rfl) (fun K_ hK_ => ?_); go_big_quiet_op; refine hK_ _ ?_; clear hK_ K_)
          (refine tree_run (by simp only [List.getElem?_toArray, List.getElem?_cons_succ, List.getElem?_cons_zero]; rfl) (by rfl) (by rfl) (fun K_ hK_ => ?_); have HK_ := Lib.hid hK_; clear hK_; go_wp2_with (first
        | (go_at_call 15; refine (R0.out _).mono ?_; rintro e w_ ⟨rfl, rfl⟩)
        | (go_at_call 16; refine (R2.out _).mono ?_; rintro e w_ ⟨rfl, rfl⟩)); refine HK_.out _ _ (wld_of (by repeat (first | exact same_below (brefl _) | exact same_below (bdrew1 (brefl _)) | assumption | refine same_drew ?_ | refine same_then ?_ (by assumption) | refine same_alloc ?_ _ | (refine same_set ?_ (by first | (left; simp; done) | (right; simp; done) | (right; simp; omega)) _)))) ?_; clear HK_)
          (refine tree_quiet (by simp only [List.getElem?_toArray, List.getElem?_cons_succ, List.getElem?_cons_zero]; rfl) (by rfl) (by rfl) (fun K_ hK_ => ?_); go_big_quiet_op; refine hK_ _ ?_; clear hK_ K_)
          (refine tree_run (by simp only [List.getElem?_toArray, List.getElem?_cons_succ, List.getElem?_cons_zero]; rfl) (by rfl) (by rfl) (fun K_ hK_ => ?_); have HK_ := Lib.hid hK_; clear hK_; go_wp2_with (first
        | (go_at_call 15; refine (R0.out _).mono ?_; rintro e w_ ⟨rfl, rfl⟩)
        | (go_at_call 16; refine (R2.out _).mono ?_; rintro e w_ ⟨rfl, rfl⟩)); refine HK_.out _ _ (wld_of (by repeat (first | exact same_below (brefl _) | exact same_below (bdrew1 (brefl _)) | assumption | refine same_drew ?_ | refine same_then ?_ (by assumption) | refine same_alloc ?_ _ | (refine same_set ?_ (by first | (left; simp; done) | (right; simp; done) | (right; simp; omega)) _)))) ?_; clear HK_)
          refine tree_nil ?_
          clear hG_
          exact hfin_ ()
      go_wp2_with fail
      obtain ⟨V2, hV2⟩ : ∃ V2, V2 = (V.alloc (Obj.cells #[.bool B0, .bool true, .bool B2] 33)).drew := ⟨_, rfl⟩
      have hb : Below w.heap.size w V2 := by rw [hV2]; exact bdrew1 (balloc HB.out _)
      have y0 : V2.cell? ⟨w.heap.size, 0, none⟩ = some (.int .i64 k) := by rw [hV2]; simp [hAC, v0]; omega
      have y1 : V2.cell? ⟨w.heap.size, 1, none⟩ = some (.int .i64 m) := by rw [hV2]; simp [hAC, v1]; omega
      have y2 : V2.cell? ⟨w.heap.size, 2, none⟩ = some (.int .i64 s) := by rw [hV2]; simp [hAC, v2]; omega
      have yz : w.heap.size < V2.heap.size := by rw [hV2]; simp; omega
      rw [← hV2]
      clear hV2 v0 v1 v2 vz HB
      have HB := Lib.hid hb
      clear hb
      go_loopw [45] (CutsRel V2) (fun i _ => 3 - (intOf i).toNat)
      case atStart => exact ⟨0, by omega, rfl, Below.refl _ _⟩
      case round =>
        obtain ⟨j, hj, rfl, hbr⟩ := hrel
        have hbw : Below w.heap.size w wr := HB.out.trans (hbr.mono (by omega))
        have z0 := (hbr.cell (p := ⟨w.heap.size, 0, none⟩) yz).trans y0
        have z1 := (hbr.cell (p := ⟨w.heap.size, 1, none⟩) yz).trans y1
        have z2 := (hbr.cell (p := ⟨w.heap.size, 2, none⟩) yz).trans y2
        have hzr : w.heap.size < wr.heap.size := by have := hbr.size; omega
        have hzz : V2.heap.size ≤ wr.heap.size := hbr.size
        have HBR := Lib.hid hbr
        have HBW := Lib.hid hbw
        clear hbr hbw y0 y1 y2 yz
        have hj' : j = 0 ∨ j = 1 ∨ j = 2 ∨ j = 3 := by omega
        clear hj
        rcases hj' with rfl | rfl | rfl | rfl
        · by_cases hin : fitK n 0 k m s
          · obtain rfl : B0 = true := by
              rw [HB0.out]; simpa [fitK] using hin
            obtain ⟨q, rfl⟩ : ∃ q : Nat, m = q := ⟨m.toNat, by simp only [fitK] at hin; omega⟩
            have hqe : lenK n 0 k q s = q := by simp [lenK]
            have hq := (lenK_le hin).2
            rw [hqe] at hq
            have HXL := Lib.hid (show ((bs.drop k.toNat).take q).length = q by rw [List.length_take, List.length_drop, HL.out]; omega)
            have hG : Calls Try.prog 17 #[.slice a n c, .int .i64 ((0 : Nat) : Int), .agg #[.int .i64 k, .int .i64 (q : Int), .int .i64 s]] wr fun e w' => ∃ a' c', e = .returned (.tuple #[.slice a' q c', .int .i64 q, .bool true]) ∧ Has w' a' (bytesV ((bs.drop k.toNat).take q)) ∧ q ≤ c' ∧ c' ≤ maxLen ∧ Below wr.heap.size wr w' := cut_in 0 (by omega) a n c bs k (q : Int) s q wr hin hqe (HH.out.below HBW.out) HL.out hn hc hn1 HM.out.2 HS.out.2
            have HG := Lib.hid hG
            have hI := idx3_0
            clear hG hin hqe
            go_wp2_with (go_at_call 17; refine HG.out.mono ?_; rintro e w5 ⟨a5, c5, rfl, hx5, k51, k52, hb5⟩; have HX5 := Lib.hid hx5; have z5 := (hb5.cell (p := ⟨w.heap.size, 2, none⟩) hzr).trans z2; clear hx5)
            have hs5 : ∀ p : Wld w5 [], (convert 22 9 (.slice a5 q c5)).run Try.prog p.val = .ok (.string (str ((bs.drop k.toNat).take q))) p.val := fun p => run_str Try.underlying22 Try.underlying5 Try.underlying9 (HX5.out.same p.is) HXL.out
            have hs6 : ∀ p : Wld w5 [], (convert 22 9 (.slice (if c = k.toNat then a else Option.map (fun x => x.add k.toNat) a) ((k + (q : Int)).toNat - k.toNat) (c - k.toNat))).run Try.prog p.val = .ok (.string (str ((bs.drop k.toNat).take q))) p.val := fun p => run_str Try.underlying22 Try.underlying5 Try.underlying9 (Has.same (a := adv a c k.toNat) (has_adv_take ((HH.out.below HBW.out).below hb5) HL.out hq hn) p.is) (by rw [HXL.out]; omega)
            generalize (bs.drop k.toNat).take q = xs at *
            refine wp_region_tree (.step 0 (.step 1 (.step 2 (.step 3 (.step 4 (.step 5 (.step 6 (.step 7 (.step 8 (.step 9 (.step 10 (.step 11 (.step 12 (.step 13 (.step 14 .nil))))))))))))))) (by kernel_rfl) (by kernel_rfl) (by kernel_rfl) (by kernel_rfl) (by intro _ _ d_ _ _ h_; cases d_ <;> first | exact h_ | (dsimp +zetaDelta only at h_ ⊢; exact h_)) (fun w' => ∃ p : Wld w5 [], w' = p.val) (wld_start _ _) ?_
            have hG_ := @wldC w5
            (refine tree_quiet (by simp only [List.getElem?_toArray, List.getElem?_cons_succ, List.getElem?_cons_zero]; rfl) (by rfl) (by rfl) (fun K_ hK_ => ?_); go_big_quiet_op; refine hK_ _ ?_; clear hK_ K_)
            (refine tree_quiet (by simp only [List.getElem?_toArray, List.getElem?_cons_succ, List.getElem?_cons_zero]; rfl) (by rfl) (by rfl) (fun K_ hK_ => ?_); go_big_quiet_op; refine hK_ _ ?_; clear hK_ K_)
            (refine tree_quiet (by simp only [List.getElem?_toArray, List.getElem?_cons_succ, List.getElem?_cons_zero]; rfl) (by rfl) (by rfl) (fun K_ hK_ => ?_); go_big_quiet_op; refine hK_ _ ?_; clear hK_ K_)
            (refine tree_quiet (by simp only [List.getElem?_toArray, List.getElem?_cons_succ, List.getElem?_cons_zero]; rfl) (by rfl) (by rfl) (fun K_ hK_ => ?_); go_big_quiet_op; refine hK_ _ ?_; clear hK_ K_)
            first | (refine tree_skip (by simp only [List.getElem?_toArray, List.getElem?_cons_succ, List.getElem?_cons_zero]; rfl) (by rfl) ?_; dsimp only [Act.put]; simp only [List.setIfInBounds_toArray, List.set_cons_succ, List.set_cons_zero]) | (refine tree_quiet (by simp only [List.getElem?_toArray, List.getElem?_cons_succ, List.getElem?_cons_zero]; rfl) (by rfl) (by rfl) (fun K_ hK_ => ?_); go_big_quiet_op; refine hK_ _ ?_; clear hK_ K_)
            first | (refine tree_skip (by simp only [List.getElem?_toArray, List.getElem?_cons_succ, List.getElem?_cons_zero]; rfl) (by rfl) ?_; dsimp only [Act.put]; simp only [List.setIfInBounds_toArray, List.set_cons_succ, List.set_cons_zero]) | (refine tree_quiet (by simp only [List.getElem?_toArray, List.getElem?_cons_succ, List.getElem?_cons_zero]; rfl) (by rfl) (by rfl) (fun K_ hK_ => ?_); go_big_quiet_op; refine hK_ _ ?_; clear hK_ K_)
            first | (refine tree_skip (by simp only [List.getElem?_toArray, List.getElem?_cons_succ, List.getElem?_cons_zero]; rfl) (by rfl) ?_; dsimp only [Act.put]; simp only [List.setIfInBounds_toArray, List.set_cons_succ, List.set_cons_zero]) | (refine tree_quiet (by simp only [List.getElem?_toArray, List.getElem?_cons_succ, List.getElem?_cons_zero]; rfl) (by rfl) (by rfl) (fun K_ hK_ => ?_); go_big_quiet_op; refine hK_ _ ?_; clear hK_ K_)
            first | (refine tree_skip (by simp only [List.getElem?_toArray, List.getElem?_cons_succ, List.getElem?_cons_zero]; rfl) (by rfl) ?_; dsimp only [Act.put]; simp only [List.setIfInBounds_toArray, List.set_cons_succ, List.set_cons_zero]) | (refine tree_quiet (by simp only [List.getElem?_toArray, List.getElem?_cons_succ, List.getElem?_cons_zero]; rfl) (by rfl) (by rfl) (fun K_ hK_ => ?_); go_big_quiet_op; refine hK_ _ ?_; clear hK_ K_)
            first | (refine tree_skip (by simp only [List.getElem?_toArray, List.getElem?_cons_succ, List.getElem?_cons_zero]; rfl) (by rfl) ?_; dsimp only [Act.put]; simp only [List.setIfInBounds_toArray, List.set_cons_succ, List.set_cons_zero]) | (refine tree_quiet (by simp only [List.getElem?_toArray, List.getElem?_cons_succ, List.getElem?_cons_zero]; rfl) (by rfl) (by rfl) (fun K_ hK_ => ?_); go_big_quiet_op; refine hK_ _ ?_; clear hK_ K_)
            first | (refine tree_skip (by simp only [List.getElem?_toArray, List.getElem?_cons_succ, List.getElem?_cons_zero]; rfl) (by rfl) ?_; dsimp only [Act.put]; simp only [List.setIfInBounds_toArray, List.set_cons_succ, List.set_cons_zero]) | (refine tree_quiet (by simp only [List.getElem?_toArray, List.getElem?_cons_succ, List.getElem?_cons_zero]; rfl) (by rfl) (by rfl) (fun K_ hK_ => ?_); go_big_quiet_op; refine hK_ _ ?_; clear hK_ K_)
            first | (refine tree_skip (by simp only [List.getElem?_toArray, List.getElem?_cons_succ, List.getElem?_cons_zero]; rfl) (by rfl) ?_; dsimp only [Act.put]; simp only [List.setIfInBounds_toArray, List.set_cons_succ, List.set_cons_zero]) | (refine tree_quiet (by simp only [List.getElem?_toArray, List.getElem?_cons_succ, List.getElem?_cons_zero]; rfl) (by rfl) (by rfl) (fun K_ hK_ => ?_); go_big_quiet_op; refine hK_ _ ?_; clear hK_ K_)
            first | (refine tree_skip (by simp only [List.getElem?_toArray, List.getElem?_cons_succ, List.getElem?_cons_zero]; rfl) (by rfl) ?_; dsimp only [Act.put]; simp only [List.setIfInBounds_toArray, List.set_cons_succ, List.set_cons_zero]) | (refine tree_quiet (by simp only [List.getElem?_toArray, List.getElem?_cons_succ, List.getElem?_cons_zero]; rfl) (by rfl) (by rfl) (fun K_ hK_ => ?_); go_big_quiet_op; refine hK_ _ ?_; clear hK_ K_)
            first | (refine tree_skip (by simp only [List.getElem?_toArray, List.getElem?_cons_succ, List.getElem?_cons_zero]; rfl) (by rfl) ?_; dsimp only [Act.put]; simp only [List.setIfInBounds_toArray, List.set_cons_succ, List.set_cons_zero]) | (refine tree_quiet (by simp only [List.getElem?_toArray, List.getElem?_cons_succ, List.getElem?_cons_zero]; rfl) (by rfl) (by rfl) (fun K_ hK_ => ?_); go_big_quiet_op; refine hK_ _ ?_; clear hK_ K_)
            first | (refine tree_skip (by simp only [List.getElem?_toArray, List.getElem?_cons_succ, List.getElem?_cons_zero]; rfl) (by rfl) ?_; dsimp only [Act.put]; simp only [List.setIfInBounds_toArray, List.set_cons_succ, List.set_cons_zero]) | (refine tree_quiet (by simp only [List.getElem?_toArray, List.getElem?_cons_succ, List.getElem?_cons_zero]; rfl) (by rfl) (by rfl) (fun K_ hK_ => ?_); go_big_quiet_op; refine hK_ _ ?_; clear hK_ K_)
            (refine tree_quiet (by simp only [List.getElem?_toArray, List.getElem?_cons_succ, List.getElem?_cons_zero]; rfl) (by rfl) (by rfl) (fun K_ hK_ => ?_); go_big_quiet_op; refine hK_ _ ?_; clear hK_ K_)
            refine tree_nil ?_
            clear hG_
            clear hs5 hs6
            go_wp2_with fail
            go_roundw
            case rel => exact ⟨0 + 1, by omega, by go_num, (HBR.out.trans (hb5.mono hzz)).drew⟩
            case measure => simp [intOf]
            
          · obtain rfl : B0 = false := by
              rw [HB0.out]; simpa [fitK] using hin
            have hG : Calls Try.prog 17 #[.slice a n c, .int .i64 ((0 : Nat) : Int), .agg #[.int .i64 k, .int .i64 m, .int .i64 s]] wr fun e w' => e = .returned (.tuple #[.slice none 0 0, .int .i64 0, .bool false]) ∧ Below wr.heap.size wr w' := cut_out 0 (by omega) a n c bs k m s wr hin (HH.out.below HBW.out) HL.out hn hc hn1 HM.out.2 HS.out.2
            have HG := Lib.hid hG
            have hI := idx3_0
            clear hG hin
            go_wp2_with (go_at_call 17; refine HG.out.mono ?_; rintro e w5 ⟨rfl, hb5⟩)
            go_roundw
            case rel => exact ⟨0 + 1, by omega, by go_num, HBR.out.trans (hb5.mono hzz)⟩
            case measure => simp [intOf]
            
        · have hin := HF1.out
          obtain ⟨q, hq0⟩ : ∃ q : Nat, q = n - k.toNat := ⟨_, rfl⟩
          have hqe : lenK n 1 k m s = q := by simp [lenK, hq0]
          have hsub : (n : Int) - k = (q : Int) := by omega
          clear hq0
          have hq := (lenK_le hin).2
          rw [hqe] at hq
          have HXL := Lib.hid (show ((bs.drop k.toNat).take q).length = q by rw [List.length_take, List.length_drop, HL.out]; omega)
          have hG : Calls Try.prog 17 #[.slice a n c, .int .i64 ((1 : Nat) : Int), .agg #[.int .i64 k, .int .i64 m, .int .i64 s]] wr fun e w' => ∃ a' c', e = .returned (.tuple #[.slice a' q c', .int .i64 q, .bool true]) ∧ Has w' a' (bytesV ((bs.drop k.toNat).take q)) ∧ q ≤ c' ∧ c' ≤ maxLen ∧ Below wr.heap.size wr w' := cut_in 1 (by omega) a n c bs k m s q wr hin hqe (HH.out.below HBW.out) HL.out hn hc hn1 HM.out.2 HS.out.2
          have HG := Lib.hid hG
          have hI := idx3_1
          clear hG hin hqe
          go_wp2_with (go_at_call 17; refine HG.out.mono ?_; rintro e w5 ⟨a5, c5, rfl, hx5, k51, k52, hb5⟩; have HX5 := Lib.hid hx5; have z5 := (hb5.cell (p := ⟨w.heap.size, 2, none⟩) hzr).trans z2; clear hx5)
          have hs5 : ∀ p : Wld w5 [], (convert 22 9 (.slice a5 q c5)).run Try.prog p.val = .ok (.string (str ((bs.drop k.toNat).take q))) p.val := fun p => run_str Try.underlying22 Try.underlying5 Try.underlying9 (HX5.out.same p.is) HXL.out
          have hs6 : ∀ p : Wld w5 [], (convert 22 9 (.slice (if c = k.toNat then a else Option.map (fun x => x.add k.toNat) a) ((k + (q : Int)).toNat - k.toNat) (c - k.toNat))).run Try.prog p.val = .ok (.string (str ((bs.drop k.toNat).take q))) p.val := fun p => run_str Try.underlying22 Try.underlying5 Try.underlying9 (Has.same (a := adv a c k.toNat) (has_adv_take ((HH.out.below HBW.out).below hb5) HL.out hq hn) p.is) (by rw [HXL.out]; omega)
          generalize (bs.drop k.toNat).take q = xs at *
          refine wp_region_tree (.step 0 (.step 1 (.step 2 (.step 3 (.step 4 (.step 5 (.step 6 (.step 7 (.step 8 (.step 9 (.step 10 (.step 11 (.step 12 (.step 13 (.step 14 .nil))))))))))))))) (by kernel_rfl) (by kernel_rfl) (by kernel_rfl) (by kernel_rfl) (by intro _ _ d_ _ _ h_; cases d_ <;> first | exact h_ | (dsimp +zetaDelta only at h_ ⊢; exact h_)) (fun w' => ∃ p : Wld w5 [], w' = p.val) (wld_start _ _) ?_
          have hG_ := @wldC w5
          (refine tree_quiet (by simp only [List.getElem?_toArray, List.getElem?_cons_succ, List.getElem?_cons_zero]; rfl) (by rfl) (by rfl) (fun K_ hK_ => ?_); go_big_quiet_op; refine hK_ _ ?_; clear hK_ K_)
          (refine tree_quiet (by simp only [List.getElem?_toArray, List.getElem?_cons_succ, List.getElem?_cons_zero]; rfl) (by rfl) (by rfl) (fun K_ hK_ => ?_); go_big_quiet_op; refine hK_ _ ?_; clear hK_ K_)
          (refine tree_quiet (by simp only [List.getElem?_toArray, List.getElem?_cons_succ, List.getElem?_cons_zero]; rfl) (by rfl) (by rfl) (fun K_ hK_ => ?_); go_big_quiet_op; refine hK_ _ ?_; clear hK_ K_)
          (refine tree_quiet (by simp only [List.getElem?_toArray, List.getElem?_cons_succ, List.getElem?_cons_zero]; rfl) (by rfl) (by rfl) (fun K_ hK_ => ?_); go_big_quiet_op; refine hK_ _ ?_; clear hK_ K_)
          first | (refine tree_skip (by simp only [List.getElem?_toArray, List.getElem?_cons_succ, List.getElem?_cons_zero]; rfl) (by rfl) ?_; dsimp only [Act.put]; simp only [List.setIfInBounds_toArray, List.set_cons_succ, List.set_cons_zero]) | (refine tree_quiet (by simp only [List.getElem?_toArray, List.getElem?_cons_succ, List.getElem?_cons_zero]; rfl) (by rfl) (by rfl) (fun K_ hK_ => ?_); go_big_quiet_op; refine hK_ _ ?_; clear hK_ K_)
          first | (refine tree_skip (by simp only [List.getElem?_toArray, List.getElem?_cons_succ, List.getElem?_cons_zero]; rfl) (by rfl) ?_; dsimp only [Act.put]; simp only [List.setIfInBounds_toArray, List.set_cons_succ, List.set_cons_zero]) | (refine tree_quiet (by simp only [List.getElem?_toArray, List.getElem?_cons_succ, List.getElem?_cons_zero]; rfl) (by rfl) (by rfl) (fun K_ hK_ => ?_); go_big_quiet_op; refine hK_ _ ?_; clear hK_ K_)
          first | (refine tree_skip (by simp only [List.getElem?_toArray, List.getElem?_cons_succ, List.getElem?_cons_zero]; rfl) (by rfl) ?_; dsimp only [Act.put]; simp only [List.setIfInBounds_toArray, List.set_cons_succ, List.set_cons_zero]) | (refine tree_quiet (by simp only [List.getElem?_toArray, List.getElem?_cons_succ, List.getElem?_cons_zero]; rfl) (by rfl) (by rfl) (fun K_ hK_ => ?_); go_big_quiet_op; refine hK_ _ ?_; clear hK_ K_)
          first | (refine tree_skip (by simp only [List.getElem?_toArray, List.getElem?_cons_succ, List.getElem?_cons_zero]; rfl) (by rfl) ?_; dsimp only [Act.put]; simp only [List.setIfInBounds_toArray, List.set_cons_succ, List.set_cons_zero]) | (refine tree_quiet (by simp only [List.getElem?_toArray, List.getElem?_cons_succ, List.getElem?_cons_zero]; rfl) (by rfl) (by rfl) (fun K_ hK_ => ?_); go_big_quiet_op; refine hK_ _ ?_; clear hK_ K_)
          first | (refine tree_skip (by simp only [List.getElem?_toArray, List.getElem?_cons_succ, List.getElem?_cons_zero]; rfl) (by rfl) ?_; dsimp only [Act.put]; simp only [List.setIfInBounds_toArray, List.set_cons_succ, List.set_cons_zero]) | (refine tree_quiet (by simp only [List.getElem?_toArray, List.getElem?_cons_succ, List.getElem?_cons_zero]; rfl) (by rfl) (by rfl) (fun K_ hK_ => ?_); go_big_quiet_op; refine hK_ _ ?_; clear hK_ K_)
          first | (refine tree_skip (by simp only [List.getElem?_toArray, List.getElem?_cons_succ, List.getElem?_cons_zero]; rfl) (by rfl) ?_; dsimp only [Act.put]; simp only [List.setIfInBounds_toArray, List.set_cons_succ, List.set_cons_zero]) | (refine tree_quiet (by simp only [List.getElem?_toArray, List.getElem?_cons_succ, List.getElem?_cons_zero]; rfl) (by rfl) (by rfl) (fun K_ hK_ => ?_); go_big_quiet_op; refine hK_ _ ?_; clear hK_ K_)
          first | (refine tree_skip (by simp only [List.getElem?_toArray, List.getElem?_cons_succ, List.getElem?_cons_zero]; rfl) (by rfl) ?_; dsimp only [Act.put]; simp only [List.setIfInBounds_toArray, List.set_cons_succ, List.set_cons_zero]) | (refine tree_quiet (by simp only [List.getElem?_toArray, List.getElem?_cons_succ, List.getElem?_cons_zero]; rfl) (by rfl) (by rfl) (fun K_ hK_ => ?_); go_big_quiet_op; refine hK_ _ ?_; clear hK_ K_)
          first | (refine tree_skip (by simp only [List.getElem?_toArray, List.getElem?_cons_succ, List.getElem?_cons_zero]; rfl) (by rfl) ?_; dsimp only [Act.put]; simp only [List.setIfInBounds_toArray, List.set_cons_succ, List.set_cons_zero]) | (refine tree_quiet (by simp only [List.getElem?_toArray, List.getElem?_cons_succ, List.getElem?_cons_zero]; rfl) (by rfl) (by rfl) (fun K_ hK_ => ?_); go_big_quiet_op; refine hK_ _ ?_; clear hK_ K_)
          first | (refine tree_skip (by simp only [List.getElem?_toArray, List.getElem?_cons_succ, List.getElem?_cons_zero]; rfl) (by rfl) ?_; dsimp only [Act.put]; simp only [List.setIfInBounds_toArray, List.set_cons_succ, List.set_cons_zero]) | (refine tree_quiet (by simp only [List.getElem?_toArray, List.getElem?_cons_succ, List.getElem?_cons_zero]; rfl) (by rfl) (by rfl) (fun K_ hK_ => ?_); go_big_quiet_op; refine hK_ _ ?_; clear hK_ K_)
          first | (refine tree_skip (by simp only [List.getElem?_toArray, List.getElem?_cons_succ, List.getElem?_cons_zero]; rfl) (by rfl) ?_; dsimp only [Act.put]; simp only [List.setIfInBounds_toArray, List.set_cons_succ, List.set_cons_zero]) | (refine tree_quiet (by simp only [List.getElem?_toArray, List.getElem?_cons_succ, List.getElem?_cons_zero]; rfl) (by rfl) (by rfl) (fun K_ hK_ => ?_); go_big_quiet_op; refine hK_ _ ?_; clear hK_ K_)
          (refine tree_quiet (by simp only [List.getElem?_toArray, List.getElem?_cons_succ, List.getElem?_cons_zero]; rfl) (by rfl) (by rfl) (fun K_ hK_ => ?_); go_big_quiet_op; refine hK_ _ ?_; clear hK_ K_)
          refine tree_nil ?_
          clear hG_
          clear hs5 hs6
          go_wp2_with fail
          go_roundw
          case rel => exact ⟨1 + 1, by omega, by go_num, (HBR.out.trans (hb5.mono hzz)).drew⟩
          case measure => simp [intOf]
          
        · by_cases hin : fitK n 2 k m s
          · obtain rfl : B2 = true := by
              exact HB2.out.2 hin
            obtain ⟨q, hq0⟩ : ∃ q : Nat, q = m.toNat * s.toNat := ⟨_, rfl⟩
            have hqe : lenK n 2 k m s = q := by simp [lenK, hq0]
            have hmul : m * s = (q : Int) := by
              simp only [fitK] at hin
              rw [hq0, Int.natCast_mul, Int.toNat_of_nonneg hin.2.2.1, Int.toNat_of_nonneg hin.2.2.2.1]
            clear hq0
            have hq := (lenK_le hin).2
            rw [hqe] at hq
            have HXL := Lib.hid (show ((bs.drop k.toNat).take q).length = q by rw [List.length_take, List.length_drop, HL.out]; omega)
            have hG : Calls Try.prog 17 #[.slice a n c, .int .i64 ((2 : Nat) : Int), .agg #[.int .i64 k, .int .i64 m, .int .i64 s]] wr fun e w' => ∃ a' c', e = .returned (.tuple #[.slice a' q c', .int .i64 q, .bool true]) ∧ Has w' a' (bytesV ((bs.drop k.toNat).take q)) ∧ q ≤ c' ∧ c' ≤ maxLen ∧ Below wr.heap.size wr w' := cut_in 2 (by omega) a n c bs k m s q wr hin hqe (HH.out.below HBW.out) HL.out hn hc hn1 HM.out.2 HS.out.2
            have HG := Lib.hid hG
            have hI := idx3_2
            clear hG hin hqe
            go_wp2_with (go_at_call 17; refine HG.out.mono ?_; rintro e w5 ⟨a5, c5, rfl, hx5, k51, k52, hb5⟩; have HX5 := Lib.hid hx5; have z5 := (hb5.cell (p := ⟨w.heap.size, 2, none⟩) hzr).trans z2; clear hx5)
            have hs5 : ∀ p : Wld w5 [], (convert 22 9 (.slice a5 q c5)).run Try.prog p.val = .ok (.string (str ((bs.drop k.toNat).take q))) p.val := fun p => run_str Try.underlying22 Try.underlying5 Try.underlying9 (HX5.out.same p.is) HXL.out
            have hs6 : ∀ p : Wld w5 [], (convert 22 9 (.slice (if c = k.toNat then a else Option.map (fun x => x.add k.toNat) a) ((k + (q : Int)).toNat - k.toNat) (c - k.toNat))).run Try.prog p.val = .ok (.string (str ((bs.drop k.toNat).take q))) p.val := fun p => run_str Try.underlying22 Try.underlying5 Try.underlying9 (Has.same (a := adv a c k.toNat) (has_adv_take ((HH.out.below HBW.out).below hb5) HL.out hq hn) p.is) (by rw [HXL.out]; omega)
            generalize (bs.drop k.toNat).take q = xs at *
            refine wp_region_tree (.step 0 (.step 1 (.step 2 (.step 3 (.step 4 (.step 5 (.step 6 (.step 7 (.step 8 (.step 9 (.step 10 (.step 11 (.step 12 (.step 13 (.step 14 .nil))))))))))))))) (by kernel_rfl) (by kernel_rfl) (by kernel_rfl) (by kernel_rfl) (by intro _ _ d_ _ _ h_; cases d_ <;> first | exact h_ | (dsimp +zetaDelta only at h_ ⊢; exact h_)) (fun w' => ∃ p : Wld w5 [], w' = p.val) (wld_start _ _) ?_
            have hG_ := @wldC w5
            (refine tree_quiet (by simp only [List.getElem?_toArray, List.getElem?_cons_succ, List.getElem?_cons_zero]; rfl) (by rfl) (by rfl) (fun K_ hK_ => ?_); go_big_quiet_op; refine hK_ _ ?_; clear hK_ K_)
            (refine tree_quiet (by simp only [List.getElem?_toArray, List.getElem?_cons_succ, List.getElem?_cons_zero]; rfl) (by rfl) (by rfl) (fun K_ hK_ => ?_); go_big_quiet_op; refine hK_ _ ?_; clear hK_ K_)
            (refine tree_quiet (by simp only [List.getElem?_toArray, List.getElem?_cons_succ, List.getElem?_cons_zero]; rfl) (by rfl) (by rfl) (fun K_ hK_ => ?_); go_big_quiet_op; refine hK_ _ ?_; clear hK_ K_)
            (refine tree_quiet (by simp only [List.getElem?_toArray, List.getElem?_cons_succ, List.getElem?_cons_zero]; rfl) (by rfl) (by rfl) (fun K_ hK_ => ?_); go_big_quiet_op; refine hK_ _ ?_; clear hK_ K_)
            first | (refine tree_skip (by simp only [List.getElem?_toArray, List.getElem?_cons_succ, List.getElem?_cons_zero]; rfl) (by rfl) ?_; dsimp only [Act.put]; simp only [List.setIfInBounds_toArray, List.set_cons_succ, List.set_cons_zero]) | (refine tree_quiet (by simp only [List.getElem?_toArray, List.getElem?_cons_succ, List.getElem?_cons_zero]; rfl) (by rfl) (by rfl) (fun K_ hK_ => ?_); go_big_quiet_op; refine hK_ _ ?_; clear hK_ K_)
            first | (refine tree_skip (by simp only [List.getElem?_toArray, List.getElem?_cons_succ, List.getElem?_cons_zero]; rfl) (by rfl) ?_; dsimp only [Act.put]; simp only [List.setIfInBounds_toArray, List.set_cons_succ, List.set_cons_zero]) | (refine tree_quiet (by simp only [List.getElem?_toArray, List.getElem?_cons_succ, List.getElem?_cons_zero]; rfl) (by rfl) (by rfl) (fun K_ hK_ => ?_); go_big_quiet_op; refine hK_ _ ?_; clear hK_ K_)
            first | (refine tree_skip (by simp only [List.getElem?_toArray, List.getElem?_cons_succ, List.getElem?_cons_zero]; rfl) (by rfl) ?_; dsimp only [Act.put]; simp only [List.setIfInBounds_toArray, List.set_cons_succ, List.set_cons_zero]) | (refine tree_quiet (by simp only [List.getElem?_toArray, List.getElem?_cons_succ, List.getElem?_cons_zero]; rfl) (by rfl) (by rfl) (fun K_ hK_ => ?_); go_big_quiet_op; refine hK_ _ ?_; clear hK_ K_)
            first | (refine tree_skip (by simp only [List.getElem?_toArray, List.getElem?_cons_succ, List.getElem?_cons_zero]; rfl) (by rfl) ?_; dsimp only [Act.put]; simp only [List.setIfInBounds_toArray, List.set_cons_succ, List.set_cons_zero]) | (refine tree_quiet (by simp only [List.getElem?_toArray, List.getElem?_cons_succ, List.getElem?_cons_zero]; rfl) (by rfl) (by rfl) (fun K_ hK_ => ?_); go_big_quiet_op; refine hK_ _ ?_; clear hK_ K_)
            first | (refine tree_skip (by simp only [List.getElem?_toArray, List.getElem?_cons_succ, List.getElem?_cons_zero]; rfl) (by rfl) ?_; dsimp only [Act.put]; simp only [List.setIfInBounds_toArray, List.set_cons_succ, List.set_cons_zero]) | (refine tree_quiet (by simp only [List.getElem?_toArray, List.getElem?_cons_succ, List.getElem?_cons_zero]; rfl) (by rfl) (by rfl) (fun K_ hK_ => ?_); go_big_quiet_op; refine hK_ _ ?_; clear hK_ K_)
            first | (refine tree_skip (by simp only [List.getElem?_toArray, List.getElem?_cons_succ, List.getElem?_cons_zero]; rfl) (by rfl) ?_; dsimp only [Act.put]; simp only [List.setIfInBounds_toArray, List.set_cons_succ, List.set_cons_zero]) | (refine tree_quiet (by simp only [List.getElem?_toArray, List.getElem?_cons_succ, List.getElem?_cons_zero]; rfl) (by rfl) (by rfl) (fun K_ hK_ => ?_); go_big_quiet_op; refine hK_ _ ?_; clear hK_ K_)
            first | (refine tree_skip (by simp only [List.getElem?_toArray, List.getElem?_cons_succ, List.getElem?_cons_zero]; rfl) (by rfl) ?_; dsimp only [Act.put]; simp only [List.setIfInBounds_toArray, List.set_cons_succ, List.set_cons_zero]) | (refine tree_quiet (by simp only [List.getElem?_toArray, List.getElem?_cons_succ, List.getElem?_cons_zero]; rfl) (by rfl) (by rfl) (fun K_ hK_ => ?_); go_big_quiet_op; refine hK_ _ ?_; clear hK_ K_)
            first | (refine tree_skip (by simp only [List.getElem?_toArray, List.getElem?_cons_succ, List.getElem?_cons_zero]; rfl) (by rfl) ?_; dsimp only [Act.put]; simp only [List.setIfInBounds_toArray, List.set_cons_succ, List.set_cons_zero]) | (refine tree_quiet (by simp only [List.getElem?_toArray, List.getElem?_cons_succ, List.getElem?_cons_zero]; rfl) (by rfl) (by rfl) (fun K_ hK_ => ?_); go_big_quiet_op; refine hK_ _ ?_; clear hK_ K_)
            first | (refine tree_skip (by simp only [List.getElem?_toArray, List.getElem?_cons_succ, List.getElem?_cons_zero]; rfl) (by rfl) ?_; dsimp only [Act.put]; simp only [List.setIfInBounds_toArray, List.set_cons_succ, List.set_cons_zero]) | (refine tree_quiet (by simp only [List.getElem?_toArray, List.getElem?_cons_succ, List.getElem?_cons_zero]; rfl) (by rfl) (by rfl) (fun K_ hK_ => ?_); go_big_quiet_op; refine hK_ _ ?_; clear hK_ K_)
            first | (refine tree_skip (by simp only [List.getElem?_toArray, List.getElem?_cons_succ, List.getElem?_cons_zero]; rfl) (by rfl) ?_; dsimp only [Act.put]; simp only [List.setIfInBounds_toArray, List.set_cons_succ, List.set_cons_zero]) | (refine tree_quiet (by simp only [List.getElem?_toArray, List.getElem?_cons_succ, List.getElem?_cons_zero]; rfl) (by rfl) (by rfl) (fun K_ hK_ => ?_); go_big_quiet_op; refine hK_ _ ?_; clear hK_ K_)
            (refine tree_quiet (by simp only [List.getElem?_toArray, List.getElem?_cons_succ, List.getElem?_cons_zero]; rfl) (by rfl) (by rfl) (fun K_ hK_ => ?_); go_big_quiet_op; refine hK_ _ ?_; clear hK_ K_)
            refine tree_nil ?_
            clear hG_
            clear hs5 hs6
            go_wp2_with fail
            go_roundw
            case rel => exact ⟨2 + 1, by omega, by go_num, (HBR.out.trans (hb5.mono hzz)).drew⟩
            case measure => simp [intOf]
            
          · obtain rfl : B2 = false := by
              cases B2 with | false => rfl | true => exact absurd (HB2.out.1 rfl) hin
            have hG : Calls Try.prog 17 #[.slice a n c, .int .i64 ((2 : Nat) : Int), .agg #[.int .i64 k, .int .i64 m, .int .i64 s]] wr fun e w' => e = .returned (.tuple #[.slice none 0 0, .int .i64 0, .bool false]) ∧ Below wr.heap.size wr w' := cut_out 2 (by omega) a n c bs k m s wr hin (HH.out.below HBW.out) HL.out hn hc hn1 HM.out.2 HS.out.2
            have HG := Lib.hid hG
            have hI := idx3_2
            clear hG hin
            go_wp2_with (go_at_call 17; refine HG.out.mono ?_; rintro e w5 ⟨rfl, hb5⟩)
            go_roundw
            case rel => exact ⟨2 + 1, by omega, by go_num, HBR.out.trans (hb5.mono hzz)⟩
            case measure => simp [intOf]
            
        · go_wp2
          go_ret
          exact ⟨rfl, HBW.out⟩
          
    · have HF1 := Lib.hid (show ¬ fitK n 1 k m s from fun h => hkn h.2)
      have hd : decide (k ≤ (n : Int)) = false := by simp; omega
      go_wp2_with fail
      apply cutP
      · intro hfin_
        refine wp_region_tree (.step 0 (.step 1 (.step 2 (.step 3 (.step 5 (.step 6 (.step 13 (.step 14 (.step 15 (.step 16 (.step 17 (.step 18 (.two 4 (.step 7 (.step 8 (.step 9 (.step 10 (.step 11 (.step 12 (.two 19 (.step 20 (.step 21 (.step 22 .nil))) 21 (.step 19 (.step 20 (.step 22 .nil)))))))))) 21 (.step 4 (.step 7 (.step 8 (.step 9 (.step 10 (.step 11 (.step 12 (.step 19 (.step 20 (.step 22 .nil))))))))))))))))))))))) (by kernel_rfl) (by kernel_rfl) (by kernel_rfl) (by kernel_rfl) (by intro _ _ d_ _ _ h_; cases d_ <;> first | exact h_ | (dsimp +zetaDelta only at h_ ⊢; exact h_)) (fun w' => ∃ p : Wld V [], w' = p.val) (wld_start _ _) ?_
        have hG_ := @wldC V
        (refine tree_quiet (by simp only [List.getElem?_toArray, List.getElem?_cons_succ, List.getElem?_cons_zero]; rfl) (by rfl) (by rfl) (fun K_ hK_ => ?_); go_big_quiet_op; refine hK_ _ ?_; clear hK_ K_)
        (refine tree_quiet (by simp only [List.getElem?_toArray, List.getElem?_cons_succ, List.getElem?_cons_zero]; rfl) (by rfl) (by rfl) (fun K_ hK_ => ?_); go_big_quiet_op; refine hK_ _ ?_; clear hK_ K_)
        (refine tree_quiet (by simp only [List.getElem?_toArray, List.getElem?_cons_succ, List.getElem?_cons_zero]; rfl) (by rfl) (by rfl) (fun K_ hK_ => ?_); go_big_quiet_op; refine hK_ _ ?_; clear hK_ K_)
        (refine tree_quiet (by simp only [List.getElem?_toArray, List.getElem?_cons_succ, List.getElem?_cons_zero]; rfl) (by rfl) (by rfl) (fun K_ hK_ => ?_); go_big_quiet_op; refine hK_ _ ?_; clear hK_ K_)
        (refine tree_quiet (by simp only [List.getElem?_toArray, List.getElem?_cons_succ, List.getElem?_cons_zero]; rfl) (by rfl) (by rfl) (fun K_ hK_ => ?_); go_big_quiet_op; refine hK_ _ ?_; clear hK_ K_)
        (refine tree_quiet (by simp only [List.getElem?_toArray, List.getElem?_cons_succ, List.getElem?_cons_zero]; rfl) (by rfl) (by rfl) (fun K_ hK_ => ?_); go_big_quiet_op; refine hK_ _ ?_; clear hK_ K_)
        (refine tree_quiet (by simp only [List.getElem?_toArray, List.getElem?_cons_succ, List.getElem?_cons_zero]; rfl) (by rfl) (by rfl) (fun K_ hK_ => ?_); go_big_quiet_op; refine hK_ _ ?_; clear hK_ K_)
        (refine tree_quiet (by simp only [List.getElem?_toArray, List.getElem?_cons_succ, List.getElem?_cons_zero]; rfl) (by rfl) (by rfl) (fun K_ hK_ => ?_); go_big_quiet_op; refine hK_ _ ?_; clear hK_ K_)
        (refine tree_quiet (by simp only [List.getElem?_toArray, List.getElem?_cons_succ, List.getElem?_cons_zero]; rfl) (by rfl) (by rfl) (fun K_ hK_ => ?_); go_big_quiet_op; refine hK_ _ ?_; clear hK_ K_)
        (refine tree_quiet (by simp only [List.getElem?_toArray, List.getElem?_cons_succ, List.getElem?_cons_zero]; rfl) (by rfl) (by rfl) (fun K_ hK_ => ?_); go_big_quiet_op; refine hK_ _ ?_; clear hK_ K_)
        (refine tree_quiet (by simp only [List.getElem?_toArray, List.getElem?_cons_succ, List.getElem?_cons_zero]; rfl) (by rfl) (by rfl) (fun K_ hK_ => ?_); go_big_quiet_op; refine hK_ _ ?_; clear hK_ K_)
        (refine tree_quiet (by simp only [List.getElem?_toArray, List.getElem?_cons_succ, List.getElem?_cons_zero]; rfl) (by rfl) (by rfl) (fun K_ hK_ => ?_); go_big_quiet_op; refine hK_ _ ?_; clear hK_ K_)
        refine tree_two (by simp only [List.getElem?_toArray, List.getElem?_cons_succ, List.getElem?_cons_zero]; rfl) (by simp only [List.getElem?_toArray, List.getElem?_cons_succ, List.getElem?_cons_zero]; rfl) (by rfl) (by rfl) (fun K_ hK_ => ?_) (fun K_ hK_ => ?_)
        · have HK_ := Lib.hid hK_; clear hK_; go_wp2_with (first
        | (go_at_call 15; refine (R0.out _).mono ?_; rintro e w_ ⟨rfl, rfl⟩)
        | (go_at_call 16; refine (R2.out _).mono ?_; rintro e w_ ⟨rfl, rfl⟩)); refine HK_.out _ _ (wld_of (by repeat (first | exact same_below (brefl _) | exact same_below (bdrew1 (brefl _)) | assumption | refine same_drew ?_ | refine same_then ?_ (by assumption) | refine same_alloc ?_ _ | (refine same_set ?_ (by first | (left; simp; done) | (right; simp; done) | (right; simp; omega)) _)))) ?_; clear HK_
          (refine tree_quiet (by simp only [List.getElem?_toArray, List.getElem?_cons_succ, List.getElem?_cons_zero]; rfl) (by rfl) (by rfl) (fun K_ hK_ => ?_); go_big_quiet_op; refine hK_ _ ?_; clear hK_ K_)
          first | (refine tree_skip (by simp only [List.getElem?_toArray, List.getElem?_cons_succ, List.getElem?_cons_zero]; rfl) (by rfl) ?_; dsimp only [Act.put]; simp only [List.setIfInBounds_toArray, List.set_cons_succ, List.set_cons_zero]) | (refine tree_quiet (by simp only [List.getElem?_toArray, List.getElem?_cons_succ, List.getElem?_cons_zero]; rfl) (by rfl) (by rfl) (fun K_ hK_ => ?_); go_big_quiet_op; refine hK_ _ ?_; clear hK_ K_)
          first | (refine tree_skip (by simp only [List.getElem?_toArray, List.getElem?_cons_succ, List.getElem?_cons_zero]; rfl) (by rfl) ?_; dsimp only [Act.put]; simp only [List.setIfInBounds_toArray, List.set_cons_succ, List.set_cons_zero]) | (refine tree_quiet (by simp only [List.getElem?_toArray, List.getElem?_cons_succ, List.getElem?_cons_zero]; rfl) (by rfl) (by rfl) (fun K_ hK_ => ?_); go_big_quiet_op; refine hK_ _ ?_; clear hK_ K_)
          first | (refine tree_skip (by simp only [List.getElem?_toArray, List.getElem?_cons_succ, List.getElem?_cons_zero]; rfl) (by rfl) ?_; dsimp only [Act.put]; simp only [List.setIfInBounds_toArray, List.set_cons_succ, List.set_cons_zero]) | (refine tree_quiet (by simp only [List.getElem?_toArray, List.getElem?_cons_succ, List.getElem?_cons_zero]; rfl) (by rfl) (by rfl) (fun K_ hK_ => ?_); go_big_quiet_op; refine hK_ _ ?_; clear hK_ K_)
          first | (refine tree_skip (by simp only [List.getElem?_toArray, List.getElem?_cons_succ, List.getElem?_cons_zero]; rfl) (by rfl) ?_; dsimp only [Act.put]; simp only [List.setIfInBounds_toArray, List.set_cons_succ, List.set_cons_zero]) | (refine tree_quiet (by simp only [List.getElem?_toArray, List.getElem?_cons_succ, List.getElem?_cons_zero]; rfl) (by rfl) (by rfl) (fun K_ hK_ => ?_); go_big_quiet_op; refine hK_ _ ?_; clear hK_ K_)
          (refine tree_quiet (by simp only [List.getElem?_toArray, List.getElem?_cons_succ, List.getElem?_cons_zero]; rfl) (by rfl) (by rfl) (fun K_ hK_ => ?_); go_big_quiet_op; refine hK_ _ ?_; clear hK_ K_)
          refine tree_two (by simp only [List.getElem?_toArray, List.getElem?_cons_succ, List.getElem?_cons_zero]; rfl) (by simp only [List.getElem?_toArray, List.getElem?_cons_succ, List.getElem?_cons_zero]; rfl) (by rfl) (by rfl) (fun K_ hK_ => ?_) (fun K_ hK_ => ?_)
          · have HK_ := Lib.hid hK_; clear hK_; go_wp2_with (first
        | (go_at_call 15; refine (R0.out _).mono ?_; rintro e w_ ⟨rfl, rfl⟩)
        | (go_at_call 16; refine (R2.out _).mono ?_; rintro e w_ ⟨rfl, rfl⟩)); refine HK_.out _ _ (wld_of (by repeat (first | exact same_below (brefl _) | exact same_below (bdrew1 (brefl _)) | assumption | refine same_drew ?_ | refine same_then ?_ (by assumption) | refine same_alloc ?_ _ | (refine same_set ?_ (by first | (left; simp; done) | (right; simp; done) | (right; simp; omega)) _)))) ?_; clear HK_
            (refine tree_quiet (by simp only [List.getElem?_toArray, List.getElem?_cons_succ, List.getElem?_cons_zero]; rfl) (by rfl) (by rfl) (fun K_ hK_ => ?_); go_big_quiet_op; refine hK_ _ ?_; clear hK_ K_)
            (refine tree_run (by simp only [List.getElem?_toArray, List.getElem?_cons_succ, List.getElem?_cons_zero]; rfl) (by rfl) (by rfl) (fun K_ hK_ => ?_); have HK_ := Lib.hid hK_; clear hK_; go_wp2_with (first
        | (go_at_call 15; refine (R0.out _).mono ?_; rintro e w_ ⟨rfl, rfl⟩)
        | (go_at_call 16; refine (R2.out _).mono ?_; rintro e w_ ⟨rfl, rfl⟩)); refine HK_.out _ _ (wld_of (by repeat (first | exact same_below (brefl _) | exact same_below (bdrew1 (brefl _)) | assumption | refine same_drew ?_ | refine same_then ?_ (by assumption) | refine same_alloc ?_ _ | (refine same_set ?_ (by first | (left; simp; done) | (right; simp; done) | (right; simp; omega)) _)))) ?_; clear HK_)
            (refine tree_run (by simp only [List.getElem?_toArray, List.getElem?_cons_succ, List.getElem?_cons_zero]; rfl) (by rfl) (by rfl) (fun K_ hK_ => ?_); have HK_ := Lib.hid hK_; clear hK_; go_wp2_with (first
        | (go_at_call 15; refine (R0.out _).mono ?_; rintro e w_ ⟨rfl, rfl⟩)
        | (go_at_call 16; refine (R2.out _).mono ?_; rintro e w_ ⟨rfl, rfl⟩)); refine HK_.out _ _ (wld_of (by repeat (first | exact same_below (brefl _) | exact same_below (bdrew1 (brefl _)) | assumption | refine same_drew ?_ | refine same_then ?_ (by assumption) | refine same_alloc ?_ _ | (refine same_set ?_ (by first | (left; simp; done) | (right; simp; done) | (right; simp; omega)) _)))) ?_; clear HK_)
            refine tree_nil ?_
            clear hG_
            exact hfin_ ()
          · have HK_ := Lib.hid hK_; clear hK_; go_wp2_with (first
        | (go_at_call 15; refine (R0.out _).mono ?_; rintro e w_ ⟨rfl, rfl⟩)
        | (go_at_call 16; refine (R2.out _).mono ?_; rintro e w_ ⟨rfl, rfl⟩)); refine HK_.out _ _ (wld_of (by repeat (first | exact same_below (brefl _) | exact same_below (bdrew1 (brefl _)) | assumption | refine same_drew ?_ | refine same_then ?_ (by assumption) | refine same_alloc ?_ _ | (refine same_set ?_ (by first | (left; simp; done) | (right; simp; done) | (right; simp; omega)) _)))) ?_; clear HK_
            (refine tree_run (by simp only [List.getElem?_toArray, List.getElem?_cons_succ, List.getElem?_cons_zero]; rfl) (by rfl) (by rfl) (fun K_ hK_ => ?_); have HK_ := Lib.hid hK_; clear hK_; go_wp2_with (first
        | (go_at_call 15; refine (R0.out _).mono ?_; rintro e w_ ⟨rfl, rfl⟩)
        | (go_at_call 16; refine (R2.out _).mono ?_; rintro e w_ ⟨rfl, rfl⟩)); refine HK_.out _ _ (wld_of (by repeat (first | exact same_below (brefl _) | exact same_below (bdrew1 (brefl _)) | assumption | refine same_drew ?_ | refine same_then ?_ (by assumption) | refine same_alloc ?_ _ | (refine same_set ?_ (by first | (left; simp; done) | (right; simp; done) | (right; simp; omega)) _)))) ?_; clear HK_)
            (refine tree_quiet (by simp only [List.getElem?_toArray, List.getElem?_cons_succ, List.getElem?_cons_zero]; rfl) (by rfl) (by rfl) (fun K_ hK_ => ?_); go_big_quiet_op; refine hK_ _ ?_; clear hK_ K_)
            (refine tree_run (by simp only [List.getElem?_toArray, List.getElem?_cons_succ, List.getElem?_cons_zero]; rfl) (by rfl) (by rfl) (fun K_ hK_ => ?_); have HK_ := Lib.hid hK_; clear hK_; go_wp2_with (first
        | (go_at_call 15; refine (R0.out _).mono ?_; rintro e w_ ⟨rfl, rfl⟩)
        | (go_at_call 16; refine (R2.out _).mono ?_; rintro e w_ ⟨rfl, rfl⟩)); refine HK_.out _ _ (wld_of (by repeat (first | exact same_below (brefl _) | exact same_below (bdrew1 (brefl _)) | assumption | refine same_drew ?_ | refine same_then ?_ (by assumption) | refine same_alloc ?_ _ | (refine same_set ?_ (by first | (left; simp; done) | (right; simp; done) | (right; simp; omega)) _)))) ?_; clear HK_)
            refine tree_nil ?_
            clear hG_
            exact hfin_ ()
        · have HK_ := Lib.hid hK_; clear hK_; go_wp2_with (first
        | (go_at_call 15; refine (R0.out _).mono ?_; rintro e w_ ⟨rfl, rfl⟩)
        | (go_at_call 16; refine (R2.out _).mono ?_; rintro e w_ ⟨rfl, rfl⟩)); refine HK_.out _ _ (wld_of (by repeat (first | exact same_below (brefl _) | exact same_below (bdrew1 (brefl _)) | assumption | refine same_drew ?_ | refine same_then ?_ (by assumption) | refine same_alloc ?_ _ | (refine same_set ?_ (by first | (left; simp; done) | (right; simp; done) | (right; simp; omega)) _)))) ?_; clear HK_
          (refine tree_run (by simp only [List.getElem?_toArray, List.getElem?_cons_succ, List.getElem?_cons_zero]; rfl) (by rfl) (by rfl) (fun K_ hK_ => ?_); have HK_ := Lib.hid hK_; clear hK_; go_wp2_with (first
        | (go_at_call 15; refine (R0.out _).mono ?_; rintro e w_ ⟨rfl, rfl⟩)
        | (go_at_call 16; refine (R2.out _).mono ?_; rintro e w_ ⟨rfl, rfl⟩)); refine HK_.out _ _ (wld_of (by repeat (first | exact same_below (brefl _) | exact same_below (bdrew1 (brefl _)) | assumption | refine same_drew ?_ | refine same_then ?_ (by assumption) | refine same_alloc ?_ _ | (refine same_set ?_ (by first | (left; simp; done) | (right; simp; done) | (right; simp; omega)) _)))) ?_; clear HK_)
          (refine tree_quiet (by simp only [List.getElem?_toArray, List.getElem?_cons_succ, List.getElem?_cons_zero]; rfl) (by rfl) (by rfl) (fun K_ hK_ => ?_); go_big_quiet_op; refine hK_ _ ?_; clear hK_ K_)
          first | (refine tree_skip (by simp only [List.getElem?_toArray, List.getElem?_cons_succ, List.getElem?_cons_zero]; rfl) (by rfl) ?_; dsimp only [Act.put]; simp only [List.setIfInBounds_toArray, List.set_cons_succ, List.set_cons_zero]) | (refine tree_quiet (by simp only [List.getElem?_toArray, List.getElem?_cons_succ, List.getElem?_cons_zero]; rfl) (by rfl) (by rfl) (fun K_ hK_ => ?_); go_big_quiet_op; refine hK_ _ ?_; clear hK_ K_)
          first | (refine tree_skip (by simp only [List.getElem?_toArray, List.getElem?_cons_succ, List.getElem?_cons_zero]; rfl) (by rfl) ?_; dsimp only [Act.put]; simp only [List.setIfInBounds_toArray, List.set_cons_succ, List.set_cons_zero]) | (refine tree_quiet (by simp only [List.getElem?_toArray, List.getElem?_cons_succ, List.getElem?_cons_zero]; rfl) (by rfl) (by rfl) (fun K_ hK_ => ?_); go_big_quiet_op; refine hK_ _ ?_; clear hK_ K_)
          first | (refine tree_skip (by simp only [List.getElem?_toArray, List.getElem?_cons_succ, List.getElem?_cons_zero]; rfl) (by rfl) ?_; dsimp only [Act.put]; simp only [List.setIfInBounds_toArray, List.set_cons_succ, List.set_cons_zero]) | (refine tree_quiet (by simp only [List.getElem?_toArray, List.getElem?_cons_succ, List.getElem?_cons_zero]; rfl) (by rfl) (by rfl) (fun K_ hK_ => ?_); go_big_quiet_op; refine hK_ _ ?_; clear hK_ K_)
          first | (refine tree_skip (by simp only [List.getElem?_toArray, List.getElem?_cons_succ, List.getElem?_cons_zero]; rfl) (by rfl) ?_; dsimp only [Act.put]; simp only [List.setIfInBounds_toArray, List.set_cons_succ, List.set_cons_zero]) | (refine tree_quiet (by simp only [List.getElem?_toArray, List.getElem?_cons_succ, List.getElem?_cons_zero]; rfl) (by rfl) (by rfl) (fun K_ hK_ => ?_); go_big_quiet_op; refine hK_ _ ?_; clear hK_ K_)
          (refine tree_quiet (by simp only [List.getElem?_toArray, List.getElem?_cons_succ, List.getElem?_cons_zero]; rfl) (by rfl) (by rfl) (fun K_ hK_ => ?_); go_big_quiet_op; refine hK_ _ ?_; clear hK_ K_)
          (refine tree_run (by simp only [List.getElem?_toArray, List.getElem?_cons_succ, List.getElem?_cons_zero]; rfl) (by rfl) (by rfl) (fun K_ hK_ => ?_); have HK_ := Lib.hid hK_; clear hK_; go_wp2_with (first
        | (go_at_call 15; refine (R0.out _).mono ?_; rintro e w_ ⟨rfl, rfl⟩)
        | (go_at_call 16; refine (R2.out _).mono ?_; rintro e w_ ⟨rfl, rfl⟩)); refine HK_.out _ _ (wld_of (by repeat (first | exact same_below (brefl _) | exact same_below (bdrew1 (brefl _)) | assumption | refine same_drew ?_ | refine same_then ?_ (by assumption) | refine same_alloc ?_ _ | (refine same_set ?_ (by first | (left; simp; done) | (right; simp; done) | (right; simp; omega)) _)))) ?_; clear HK_)
          (refine tree_quiet (by simp only [List.getElem?_toArray, List.getElem?_cons_succ, List.getElem?_cons_zero]; rfl) (by rfl) (by rfl) (fun K_ hK_ => ?_); go_big_quiet_op; refine hK_ _ ?_; clear hK_ K_)
          (refine tree_run (by simp only [List.getElem?_toArray, List.getElem?_cons_succ, List.getElem?_cons_zero]; rfl) (by rfl) (by rfl) (fun K_ hK_ => ?_); have HK_ := Lib.hid hK_; clear hK_; go_wp2_with (first
        | (go_at_call 15; refine (R0.out _).mono ?_; rintro e w_ ⟨rfl, rfl⟩)
        | (go_at_call 16; refine (R2.out _).mono ?_; rintro e w_ ⟨rfl, rfl⟩)); refine HK_.out _ _ (wld_of (by repeat (first | exact same_below (brefl _) | exact same_below (bdrew1 (brefl _)) | assumption | refine same_drew ?_ | refine same_then ?_ (by assumption) | refine same_alloc ?_ _ | (refine same_set ?_ (by first | (left; simp; done) | (right; simp; done) | (right; simp; omega)) _)))) ?_; clear HK_)
          refine tree_nil ?_
          clear hG_
          exact hfin_ ()
      go_wp2_with fail
      obtain ⟨V2, hV2⟩ : ∃ V2, V2 = (V.alloc (Obj.cells #[.bool B0, .bool false, .bool B2] 33)).drew := ⟨_, rfl⟩
      have hb : Below w.heap.size w V2 := by rw [hV2]; exact bdrew1 (balloc HB.out _)
      have y0 : V2.cell? ⟨w.heap.size, 0, none⟩ = some (.int .i64 k) := by rw [hV2]; simp [hAC, v0]; omega
      have y1 : V2.cell? ⟨w.heap.size, 1, none⟩ = some (.int .i64 m) := by rw [hV2]; simp [hAC, v1]; omega
      have y2 : V2.cell? ⟨w.heap.size, 2, none⟩ = some (.int .i64 s) := by rw [hV2]; simp [hAC, v2]; omega
      have yz : w.heap.size < V2.heap.size := by rw [hV2]; simp; omega
      rw [← hV2]
      clear hV2 v0 v1 v2 vz HB
      have HB := Lib.hid hb
      clear hb
      go_loopw [45] (CutsRel V2) (fun i _ => 3 - (intOf i).toNat)
      case atStart => exact ⟨0, by omega, rfl, Below.refl _ _⟩
      case round =>
        obtain ⟨j, hj, rfl, hbr⟩ := hrel
        have hbw : Below w.heap.size w wr := HB.out.trans (hbr.mono (by omega))
        have z0 := (hbr.cell (p := ⟨w.heap.size, 0, none⟩) yz).trans y0
        have z1 := (hbr.cell (p := ⟨w.heap.size, 1, none⟩) yz).trans y1
        have z2 := (hbr.cell (p := ⟨w.heap.size, 2, none⟩) yz).trans y2
        have hzr : w.heap.size < wr.heap.size := by have := hbr.size; omega
        have hzz : V2.heap.size ≤ wr.heap.size := hbr.size
        have HBR := Lib.hid hbr
        have HBW := Lib.hid hbw
        clear hbr hbw y0 y1 y2 yz
        have hj' : j = 0 ∨ j = 1 ∨ j = 2 ∨ j = 3 := by omega
        clear hj
        rcases hj' with rfl | rfl | rfl | rfl
        · have hin : ¬ fitK n 0 k m s := fun h => HF1.out (by simp only [fitK] at h ⊢; omega)
          obtain rfl : B0 = false := by
            rw [HB0.out]; simpa [fitK] using hin
          have hG : Calls Try.prog 17 #[.slice a n c, .int .i64 ((0 : Nat) : Int), .agg #[.int .i64 k, .int .i64 m, .int .i64 s]] wr fun e w' => e = .returned (.tuple #[.slice none 0 0, .int .i64 0, .bool false]) ∧ Below wr.heap.size wr w' := cut_out 0 (by omega) a n c bs k m s wr hin (HH.out.below HBW.out) HL.out hn hc hn1 HM.out.2 HS.out.2
          have HG := Lib.hid hG
          have hI := idx3_0
          clear hG hin
          go_wp2_with (go_at_call 17; refine HG.out.mono ?_; rintro e w5 ⟨rfl, hb5⟩)
          go_roundw
          case rel => exact ⟨0 + 1, by omega, by go_num, HBR.out.trans (hb5.mono hzz)⟩
          case measure => simp [intOf]
          
        · have hin := HF1.out
          have hG : Calls Try.prog 17 #[.slice a n c, .int .i64 ((1 : Nat) : Int), .agg #[.int .i64 k, .int .i64 m, .int .i64 s]] wr fun e w' => e = .returned (.tuple #[.slice none 0 0, .int .i64 0, .bool false]) ∧ Below wr.heap.size wr w' := cut_out 1 (by omega) a n c bs k m s wr hin (HH.out.below HBW.out) HL.out hn hc hn1 HM.out.2 HS.out.2
          have HG := Lib.hid hG
          have hI := idx3_1
          clear hG hin
          go_wp2_with (go_at_call 17; refine HG.out.mono ?_; rintro e w5 ⟨rfl, hb5⟩)
          go_roundw
          case rel => exact ⟨1 + 1, by omega, by go_num, HBR.out.trans (hb5.mono hzz)⟩
          case measure => simp [intOf]
          
        · have hin : ¬ fitK n 2 k m s := fun h => HF1.out (by simp only [fitK] at h ⊢; omega)
          obtain rfl : B2 = false := by
            cases B2 with | false => rfl | true => exact absurd (HB2.out.1 rfl) hin
          have hG : Calls Try.prog 17 #[.slice a n c, .int .i64 ((2 : Nat) : Int), .agg #[.int .i64 k, .int .i64 m, .int .i64 s]] wr fun e w' => e = .returned (.tuple #[.slice none 0 0, .int .i64 0, .bool false]) ∧ Below wr.heap.size wr w' := cut_out 2 (by omega) a n c bs k m s wr hin (HH.out.below HBW.out) HL.out hn hc hn1 HM.out.2 HS.out.2
          have HG := Lib.hid hG
          have hI := idx3_2
          clear hG hin
          go_wp2_with (go_at_call 17; refine HG.out.mono ?_; rintro e w5 ⟨rfl, hb5⟩)
          go_roundw
          case rel => exact ⟨2 + 1, by omega, by go_num, HBR.out.trans (hb5.mono hzz)⟩
          case measure => simp [intOf]
          
        · go_wp2
          go_ret
          exact ⟨rfl, HBW.out⟩
          
  · have HF1 := Lib.hid (show ¬ fitK n 1 k m s from fun h => hk0 h.1)
    have hd : decide (0 ≤ k) = false := by simp; omega
    go_wp2_with fail
    apply cutP
    · intro hfin_
      refine wp_region_tree (.step 0 (.step 1 (.step 2 (.step 3 (.step 5 (.step 6 (.step 13 (.step 14 (.step 15 (.step 16 (.step 17 (.step 18 (.two 4 (.step 7 (.step 8 (.step 9 (.step 10 (.step 11 (.step 12 (.two 19 (.step 20 (.step 21 (.step 22 .nil))) 21 (.step 19 (.step 20 (.step 22 .nil)))))))))) 21 (.step 4 (.step 7 (.step 8 (.step 9 (.step 10 (.step 11 (.step 12 (.step 19 (.step 20 (.step 22 .nil))))))))))))))))))))))) (by kernel_rfl) (by kernel_rfl) (by kernel_rfl) (by kernel_rfl) (by intro _ _ d_ _ _ h_; cases d_ <;> first | exact h_ | (dsimp +zetaDelta only at h_ ⊢; exact h_)) (fun w' => ∃ p : Wld V [], w' = p.val) (wld_start _ _) ?_
      have hG_ := @wldC V
      (refine tree_quiet (by simp only [List.getElem?_toArray, List.getElem?_cons_succ, List.getElem?_cons_zero]; rfl) (by rfl) (by rfl) (fun K_ hK_ => ?_); go_big_quiet_op; refine hK_ _ ?_; clear hK_ K_)
      (refine tree_quiet (by simp only [List.getElem?_toArray, List.getElem?_cons_succ, List.getElem?_cons_zero]; rfl) (by rfl) (by rfl) (fun K_ hK_ => ?_); go_big_quiet_op; refine hK_ _ ?_; clear hK_ K_)
      (refine tree_quiet (by simp only [List.getElem?_toArray, List.getElem?_cons_succ, List.getElem?_cons_zero]; rfl) (by rfl) (by rfl) (fun K_ hK_ => ?_); go_big_quiet_op; refine hK_ _ ?_; clear hK_ K_)
      (refine tree_quiet (by simp only [List.getElem?_toArray, List.getElem?_cons_succ, List.getElem?_cons_zero]; rfl) (by rfl) (by rfl) (fun K_ hK_ => ?_); go_big_quiet_op; refine hK_ _ ?_; clear hK_ K_)
      (refine tree_quiet (by simp only [List.getElem?_toArray, List.getElem?_cons_succ, List.getElem?_cons_zero]; rfl) (by rfl) (by rfl) (fun K_ hK_ => ?_); go_big_quiet_op; refine hK_ _ ?_; clear hK_ K_)
      (refine tree_quiet (by simp only [List.getElem?_toArray, List.getElem?_cons_succ, List.getElem?_cons_zero]; rfl) (by rfl) (by rfl) (fun K_ hK_ => ?_); go_big_quiet_op; refine hK_ _ ?_; clear hK_ K_)
      (refine tree_quiet (by simp only [List.getElem?_toArray, List.getElem?_cons_succ, List.getElem?_cons_zero]; rfl) (by rfl) (by rfl) (fun K_ hK_ => ?_); go_big_quiet_op; refine hK_ _ ?_; clear hK_ K_)
      (refine tree_quiet (by simp only [List.getElem?_toArray, List.getElem?_cons_succ, List.getElem?_cons_zero]; rfl) (by rfl) (by rfl) (fun K_ hK_ => ?_); go_big_quiet_op; refine hK_ _ ?_; clear hK_ K_)
      (refine tree_quiet (by simp only [List.getElem?_toArray, List.getElem?_cons_succ, List.getElem?_cons_zero]; rfl) (by rfl) (by rfl) (fun K_ hK_ => ?_); go_big_quiet_op; refine hK_ _ ?_; clear hK_ K_)
      (refine tree_quiet (by simp only [List.getElem?_toArray, List.getElem?_cons_succ, List.getElem?_cons_zero]; rfl) (by rfl) (by rfl) (fun K_ hK_ => ?_); go_big_quiet_op; refine hK_ _ ?_; clear hK_ K_)
      (refine tree_quiet (by simp only [List.getElem?_toArray, List.getElem?_cons_succ, List.getElem?_cons_zero]; rfl) (by rfl) (by rfl) (fun K_ hK_ => ?_); go_big_quiet_op; refine hK_ _ ?_; clear hK_ K_)
      (refine tree_quiet (by simp only [List.getElem?_toArray, List.getElem?_cons_succ, List.getElem?_cons_zero]; rfl) (by rfl) (by rfl) (fun K_ hK_ => ?_); go_big_quiet_op; refine hK_ _ ?_; clear hK_ K_)
      refine tree_two (by simp only [List.getElem?_toArray, List.getElem?_cons_succ, List.getElem?_cons_zero]; rfl) (by simp only [List.getElem?_toArray, List.getElem?_cons_succ, List.getElem?_cons_zero]; rfl) (by rfl) (by rfl) (fun K_ hK_ => ?_) (fun K_ hK_ => ?_)
      · have HK_ := Lib.hid hK_; clear hK_; go_wp2_with (first
      | (go_at_call 15; refine (R0.out _).mono ?_; rintro e w_ ⟨rfl, rfl⟩)
      | (go_at_call 16; refine (R2.out _).mono ?_; rintro e w_ ⟨rfl, rfl⟩)); refine HK_.out _ _ (wld_of (by repeat (first | exact same_below (brefl _) | exact same_below (bdrew1 (brefl _)) | assumption | refine same_drew ?_ | refine same_then ?_ (by assumption) | refine same_alloc ?_ _ | (refine same_set ?_ (by first | (left; simp; done) | (right; simp; done) | (right; simp; omega)) _)))) ?_; clear HK_
        (refine tree_quiet (by simp only [List.getElem?_toArray, List.getElem?_cons_succ, List.getElem?_cons_zero]; rfl) (by rfl) (by rfl) (fun K_ hK_ => ?_); go_big_quiet_op; refine hK_ _ ?_; clear hK_ K_)
        first | (refine tree_skip (by simp only [List.getElem?_toArray, List.getElem?_cons_succ, List.getElem?_cons_zero]; rfl) (by rfl) ?_; dsimp only [Act.put]; simp only [List.setIfInBounds_toArray, List.set_cons_succ, List.set_cons_zero]) | (refine tree_quiet (by simp only [List.getElem?_toArray, List.getElem?_cons_succ, List.getElem?_cons_zero]; rfl) (by rfl) (by rfl) (fun K_ hK_ => ?_); go_big_quiet_op; refine hK_ _ ?_; clear hK_ K_)
        first | (refine tree_skip (by simp only [List.getElem?_toArray, List.getElem?_cons_succ, List.getElem?_cons_zero]; rfl) (by rfl) ?_; dsimp only [Act.put]; simp only [List.setIfInBounds_toArray, List.set_cons_succ, List.set_cons_zero]) | (refine tree_quiet (by simp only [List.getElem?_toArray, List.getElem?_cons_succ, List.getElem?_cons_zero]; rfl) (by rfl) (by rfl) (fun K_ hK_ => ?_); go_big_quiet_op; refine hK_ _ ?_; clear hK_ K_)
        first | (refine tree_skip (by simp only [List.getElem?_toArray, List.getElem?_cons_succ, List.getElem?_cons_zero]; rfl) (by rfl) ?_; dsimp only [Act.put]; simp only [List.setIfInBounds_toArray, List.set_cons_succ, List.set_cons_zero]) | (refine tree_quiet (by simp only [List.getElem?_toArray, List.getElem?_cons_succ, List.getElem?_cons_zero]; rfl) (by rfl) (by rfl) (fun K_ hK_ => ?_); go_big_quiet_op; refine hK_ _ ?_; clear hK_ K_)
        first | (refine tree_skip (by simp only [List.getElem?_toArray, List.getElem?_cons_succ, List.getElem?_cons_zero]; rfl) (by rfl) ?_; dsimp only [Act.put]; simp only [List.setIfInBounds_toArray, List.set_cons_succ, List.set_cons_zero]) | (refine tree_quiet (by simp only [List.getElem?_toArray, List.getElem?_cons_succ, List.getElem?_cons_zero]; rfl) (by rfl) (by rfl) (fun K_ hK_ => ?_); go_big_quiet_op; refine hK_ _ ?_; clear hK_ K_)
        (refine tree_quiet (by simp only [List.getElem?_toArray, List.getElem?_cons_succ, List.getElem?_cons_zero]; rfl) (by rfl) (by rfl) (fun K_ hK_ => ?_); go_big_quiet_op; refine hK_ _ ?_; clear hK_ K_)
        refine tree_two (by simp only [List.getElem?_toArray, List.getElem?_cons_succ, List.getElem?_cons_zero]; rfl) (by simp only [List.getElem?_toArray, List.getElem?_cons_succ, List.getElem?_cons_zero]; rfl) (by rfl) (by rfl) (fun K_ hK_ => ?_) (fun K_ hK_ => ?_)
        · have HK_ := Lib.hid hK_; clear hK_; go_wp2_with (first
      | (go_at_call 15; refine (R0.out _).mono ?_; rintro e w_ ⟨rfl, rfl⟩)
      | (go_at_call 16; refine (R2.out _).mono ?_; rintro e w_ ⟨rfl, rfl⟩)); refine HK_.out _ _ (wld_of (by repeat (first | exact same_below (brefl _) | exact same_below (bdrew1 (brefl _)) | assumption | refine same_drew ?_ | refine same_then ?_ (by assumption) | refine same_alloc ?_ _ | (refine same_set ?_ (by first | (left; simp; done) | (right; simp; done) | (right; simp; omega)) _)))) ?_; clear HK_
          (refine tree_quiet (by simp only [List.getElem?_toArray, List.getElem?_cons_succ, List.getElem?_cons_zero]; rfl) (by rfl) (by rfl) (fun K_ hK_ => ?_); go_big_quiet_op; refine hK_ _ ?_; clear hK_ K_)
          (refine tree_run (by simp only [List.getElem?_toArray, List.getElem?_cons_succ, List.getElem?_cons_zero]; rfl) (by rfl) (by rfl) (fun K_ hK_ => ?_); have HK_ := Lib.hid hK_; clear hK_; go_wp2_with (first
      | (go_at_call 15; refine (R0.out _).mono ?_; rintro e w_ ⟨rfl, rfl⟩)
      | (go_at_call 16; refine (R2.out _).mono ?_; rintro e w_ ⟨rfl, rfl⟩)); refine HK_.out _ _ (wld_of (by repeat (first | exact same_below (brefl _) | exact same_below (bdrew1 (brefl _)) | assumption | refine same_drew ?_ | refine same_then ?_ (by assumption) | refine same_alloc ?_ _ | (refine same_set ?_ (by first | (left; simp; done) | (right; simp; done) | (right; simp; omega)) _)))) ?_; clear HK_)
          (refine tree_run (by simp only [List.getElem?_toArray, List.getElem?_cons_succ, List.getElem?_cons_zero]; rfl) (by rfl) (by rfl) (fun K_ hK_ => ?_); have HK_ := Lib.hid hK_; clear hK_; go_wp2_with (first
      | (go_at_call 15; refine (R0.out _).mono ?_; rintro e w_ ⟨rfl, rfl⟩)
      | (go_at_call 16; refine (R2.out _).mono ?_; rintro e w_ ⟨rfl, rfl⟩)); refine HK_.out _ _ (wld_of (by repeat (first | exact same_below (brefl _) | exact same_below (bdrew1 (brefl _)) | assumption | refine same_drew ?_ | refine same_then ?_ (by assumption) | refine same_alloc ?_ _ | (refine same_set ?_ (by first | (left; simp; done) | (right; simp; done) | (right; simp; omega)) _)))) ?_; clear HK_)
          refine tree_nil ?_
          clear hG_
          exact hfin_ ()
        · have HK_ := Lib.hid hK_; clear hK_; go_wp2_with (first
      | (go_at_call 15; refine (R0.out _).mono ?_; rintro e w_ ⟨rfl, rfl⟩)
      | (go_at_call 16; refine (R2.out _).mono ?_; rintro e w_ ⟨rfl, rfl⟩)); refine HK_.out _ _ (wld_of (by repeat (first | exact same_below (brefl _) | exact same_below (bdrew1 (brefl _)) | assumption | refine same_drew ?_ | refine same_then ?_ (by assumption) | refine same_alloc ?_ _ | (refine same_set ?_ (by first | (left; simp; done) | (right; simp; done) | (right; simp; omega)) _)))) ?_; clear HK_
          (refine tree_run (by simp only [List.getElem?_toArray, List.getElem?_cons_succ, List.getElem?_cons_zero]; rfl) (by rfl) (by rfl) (fun K_ hK_ => ?_); have HK_ := Lib.hid hK_; clear hK_; go_wp2_with (first
      | (go_at_call 15; refine (R0.out _).mono ?_; rintro e w_ ⟨rfl, rfl⟩)
      | (go_at_call 16; refine (R2.out _).mono ?_; rintro e w_ ⟨rfl, rfl⟩)); refine HK_.out _ _ (wld_of (by repeat (first | exact same_below (brefl _) | exact same_below (bdrew1 (brefl _)) | assumption | refine same_drew ?_ | refine same_then ?_ (by assumption) | refine same_alloc ?_ _ | (refine same_set ?_ (by first | (left; simp; done) | (right; simp; done) | (right; simp; omega)) _)))) ?_; clear HK_)
          (refine tree_quiet (by simp only [List.getElem?_toArray, List.getElem?_cons_succ, List.getElem?_cons_zero]; rfl) (by rfl) (by rfl) (fun K_ hK_ => ?_); go_big_quiet_op; refine hK_ _ ?_; clear hK_ K_)
          (refine tree_run (by simp only [List.getElem?_toArray, List.getElem?_cons_succ, List.getElem?_cons_zero]; rfl) (by rfl) (by rfl) (fun K_ hK_ => ?_); have HK_ := Lib.hid hK_; clear hK_; go_wp2_with (first
      | (go_at_call 15; refine (R0.out _).mono ?_; rintro e w_ ⟨rfl, rfl⟩)
      | (go_at_call 16; refine (R2.out _).mono ?_; rintro e w_ ⟨rfl, rfl⟩)); refine HK_.out _ _ (wld_of (by repeat (first | exact same_below (brefl _) | exact same_below (bdrew1 (brefl _)) | assumption | refine same_drew ?_ | refine same_then ?_ (by assumption) | refine same_alloc ?_ _ | (refine same_set ?_ (by first | (left; simp; done) | (right; simp; done) | (right; simp; omega)) _)))) ?_; clear HK_)
          refine tree_nil ?_
          clear hG_
          exact hfin_ ()
      · have HK_ := Lib.hid hK_; clear hK_; go_wp2_with (first
      | (go_at_call 15; refine (R0.out _).mono ?_; rintro e w_ ⟨rfl, rfl⟩)
      | (go_at_call 16; refine (R2.out _).mono ?_; rintro e w_ ⟨rfl, rfl⟩)); refine HK_.out _ _ (wld_of (by repeat (first | exact same_below (brefl _) | exact same_below (bdrew1 (brefl _)) | assumption | refine same_drew ?_ | refine same_then ?_ (by assumption) | refine same_alloc ?_ _ | (refine same_set ?_ (by first | (left; simp; done) | (right; simp; done) | (right; simp; omega)) _)))) ?_; clear HK_
        (refine tree_run (by simp only [List.getElem?_toArray, List.getElem?_cons_succ, List.getElem?_cons_zero]; rfl) (by rfl) (by rfl) (fun K_ hK_ => ?_); have HK_ := Lib.hid hK_; clear hK_; go_wp2_with (first
      | (go_at_call 15; refine (R0.out _).mono ?_; rintro e w_ ⟨rfl, rfl⟩)
      | (go_at_call 16; refine (R2.out _).mono ?_; rintro e w_ ⟨rfl, rfl⟩)); refine HK_.out _ _ (wld_of (by repeat (first | exact same_below (brefl _) | exact same_below (bdrew1 (brefl _)) | assumption | refine same_drew ?_ | refine same_then ?_ (by assumption) | refine same_alloc ?_ _ | (refine same_set ?_ (by first | (left; simp; done) | (right; simp; done) | (right; simp; omega)) _)))) ?_; clear HK_)
        (refine tree_quiet (by simp only [List.getElem?_toArray, List.getElem?_cons_succ, List.getElem?_cons_zero]; rfl) (by rfl) (by rfl) (fun K_ hK_ => ?_); go_big_quiet_op; refine hK_ _ ?_; clear hK_ K_)
        first | (refine tree_skip (by simp only [List.getElem?_toArray, List.getElem?_cons_succ, List.getElem?_cons_zero]; rfl) (by rfl) ?_; dsimp only [Act.put]; simp only [List.setIfInBounds_toArray, List.set_cons_succ, List.set_cons_zero]) | (refine tree_quiet (by simp only [List.getElem?_toArray, List.getElem?_cons_succ, List.getElem?_cons_zero]; rfl) (by rfl) (by rfl) (fun K_ hK_ => ?_); go_big_quiet_op; refine hK_ _ ?_; clear hK_ K_)
        first | (refine tree_skip (by simp only [List.getElem?_toArray, List.getElem?_cons_succ, List.getElem?_cons_zero]; rfl) (by rfl) ?_; dsimp only [Act.put]; simp only [List.setIfInBounds_toArray, List.set_cons_succ, List.set_cons_zero]) | (refine tree_quiet (by simp only [List.getElem?_toArray, List.getElem?_cons_succ, List.getElem?_cons_zero]; rfl) (by rfl) (by rfl) (fun K_ hK_ => ?_); go_big_quiet_op; refine hK_ _ ?_; clear hK_ K_)
        first | (refine tree_skip (by simp only [List.getElem?_toArray, List.getElem?_cons_succ, List.getElem?_cons_zero]; rfl) (by rfl) ?_; dsimp only [Act.put]; simp only [List.setIfInBounds_toArray, List.set_cons_succ, List.set_cons_zero]) | (refine tree_quiet (by simp only [List.getElem?_toArray, List.getElem?_cons_succ, List.getElem?_cons_zero]; rfl) (by rfl) (by rfl) (fun K_ hK_ => ?_); go_big_quiet_op; refine hK_ _ ?_; clear hK_ K_)
        first | (refine tree_skip (by simp only [List.getElem?_toArray, List.getElem?_cons_succ, List.getElem?_cons_zero]; rfl) (by rfl) ?_; dsimp only [Act.put]; simp only [List.setIfInBounds_toArray, List.set_cons_succ, List.set_cons_zero]) | (refine tree_quiet (by simp only [List.getElem?_toArray, List.getElem?_cons_succ, List.getElem?_cons_zero]; rfl) (by rfl) (by rfl) (fun K_ hK_ => ?_); go_big_quiet_op; refine hK_ _ ?_; clear hK_ K_)
        (refine tree_quiet (by simp only [List.getElem?_toArray, List.getElem?_cons_succ, List.getElem?_cons_zero]; rfl) (by rfl) (by rfl) (fun K_ hK_ => ?_); go_big_quiet_op; refine hK_ _ ?_; clear hK_ K_)
        (refine tree_run (by simp only [List.getElem?_toArray, List.getElem?_cons_succ, List.getElem?_cons_zero]; rfl) (by rfl) (by rfl) (fun K_ hK_ => ?_); have HK_ := Lib.hid hK_; clear hK_; go_wp2_with (first
      | (go_at_call 15; refine (R0.out _).mono ?_; rintro e w_ ⟨rfl, rfl⟩)
      | (go_at_call 16; refine (R2.out _).mono ?_; rintro e w_ ⟨rfl, rfl⟩)); refine HK_.out _ _ (wld_of (by repeat (first | exact same_below (brefl _) | exact same_below (bdrew1 (brefl _)) | assumption | refine same_drew ?_ | refine same_then ?_ (by assumption) | refine same_alloc ?_ _ | (refine same_set ?_ (by first | (left; simp; done) | (right; simp; done) | (right; simp; omega)) _)))) ?_; clear HK_)
        (refine tree_quiet (by simp only [List.getElem?_toArray, List.getElem?_cons_succ, List.getElem?_cons_zero]; rfl) (by rfl) (by rfl) (fun K_ hK_ => ?_); go_big_quiet_op; refine hK_ _ ?_; clear hK_ K_)
        (refine tree_run (by simp only [List.getElem?_toArray, List.getElem?_cons_succ, List.getElem?_cons_zero]; rfl) (by rfl) (by rfl) (fun K_ hK_ => ?_); have HK_ := Lib.hid hK_; clear hK_; go_wp2_with (first
      | (go_at_call 15; refine (R0.out _).mono ?_; rintro e w_ ⟨rfl, rfl⟩)
      | (go_at_call 16; refine (R2.out _).mono ?_; rintro e w_ ⟨rfl, rfl⟩)); refine HK_.out _ _ (wld_of (by repeat (first | exact same_below (brefl _) | exact same_below (bdrew1 (brefl _)) | assumption | refine same_drew ?_ | refine same_then ?_ (by assumption) | refine same_alloc ?_ _ | (refine same_set ?_ (by first | (left; simp; done) | (right; simp; done) | (right; simp; omega)) _)))) ?_; clear HK_)
        refine tree_nil ?_
        clear hG_
        exact hfin_ ()
    go_wp2_with fail
    obtain ⟨V2, hV2⟩ : ∃ V2, V2 = (V.alloc (Obj.cells #[.bool B0, .bool false, .bool B2] 33)).drew := ⟨_, rfl⟩
    have hb : Below w.heap.size w V2 := by rw [hV2]; exact bdrew1 (balloc HB.out _)
    have y0 : V2.cell? ⟨w.heap.size, 0, none⟩ = some (.int .i64 k) := by rw [hV2]; simp [hAC, v0]; omega
    have y1 : V2.cell? ⟨w.heap.size, 1, none⟩ = some (.int .i64 m) := by rw [hV2]; simp [hAC, v1]; omega
    have y2 : V2.cell? ⟨w.heap.size, 2, none⟩ = some (.int .i64 s) := by rw [hV2]; simp [hAC, v2]; omega
    have yz : w.heap.size < V2.heap.size := by rw [hV2]; simp; omega
    rw [← hV2]
    clear hV2 v0 v1 v2 vz HB
    have HB := Lib.hid hb
    clear hb
    go_loopw [45] (CutsRel V2) (fun i _ => 3 - (intOf i).toNat)
    case atStart => exact ⟨0, by omega, rfl, Below.refl _ _⟩
    case round =>
      obtain ⟨j, hj, rfl, hbr⟩ := hrel
      have hbw : Below w.heap.size w wr := HB.out.trans (hbr.mono (by omega))
      have z0 := (hbr.cell (p := ⟨w.heap.size, 0, none⟩) yz).trans y0
      have z1 := (hbr.cell (p := ⟨w.heap.size, 1, none⟩) yz).trans y1
      have z2 := (hbr.cell (p := ⟨w.heap.size, 2, none⟩) yz).trans y2
      have hzr : w.heap.size < wr.heap.size := by have := hbr.size; omega
      have hzz : V2.heap.size ≤ wr.heap.size := hbr.size
      have HBR := Lib.hid hbr
      have HBW := Lib.hid hbw
      clear hbr hbw y0 y1 y2 yz
      have hj' : j = 0 ∨ j = 1 ∨ j = 2 ∨ j = 3 := by omega
      clear hj
      rcases hj' with rfl | rfl | rfl | rfl
      · have hin : ¬ fitK n 0 k m s := fun h => HF1.out (by simp only [fitK] at h ⊢; omega)
        obtain rfl : B0 = false := by
          rw [HB0.out]; simpa [fitK] using hin
        have hG : Calls Try.prog 17 #[.slice a n c, .int .i64 ((0 : Nat) : Int), .agg #[.int .i64 k, .int .i64 m, .int .i64 s]] wr fun e w' => e = .returned (.tuple #[.slice none 0 0, .int .i64 0, .bool false]) ∧ Below wr.heap.size wr w' := cut_out 0 (by omega) a n c bs k m s wr hin (HH.out.below HBW.out) HL.out hn hc hn1 HM.out.2 HS.out.2
        have HG := Lib.hid hG
        have hI := idx3_0
        clear hG hin
        go_wp2_with (go_at_call 17; refine HG.out.mono ?_; rintro e w5 ⟨rfl, hb5⟩)
        go_roundw
        case rel => exact ⟨0 + 1, by omega, by go_num, HBR.out.trans (hb5.mono hzz)⟩
        case measure => simp [intOf]
        
      · have hin := HF1.out
        have hG : Calls Try.prog 17 #[.slice a n c, .int .i64 ((1 : Nat) : Int), .agg #[.int .i64 k, .int .i64 m, .int .i64 s]] wr fun e w' => e = .returned (.tuple #[.slice none 0 0, .int .i64 0, .bool false]) ∧ Below wr.heap.size wr w' := cut_out 1 (by omega) a n c bs k m s wr hin (HH.out.below HBW.out) HL.out hn hc hn1 HM.out.2 HS.out.2
        have HG := Lib.hid hG
        have hI := idx3_1
        clear hG hin
        go_wp2_with (go_at_call 17; refine HG.out.mono ?_; rintro e w5 ⟨rfl, hb5⟩)
        go_roundw
        case rel => exact ⟨1 + 1, by omega, by go_num, HBR.out.trans (hb5.mono hzz)⟩
        case measure => simp [intOf]
        
      · have hin : ¬ fitK n 2 k m s := fun h => HF1.out (by simp only [fitK] at h ⊢; omega)
        obtain rfl : B2 = false := by
          cases B2 with | false => rfl | true => exact absurd (HB2.out.1 rfl) hin
        have hG : Calls Try.prog 17 #[.slice a n c, .int .i64 ((2 : Nat) : Int), .agg #[.int .i64 k, .int .i64 m, .int .i64 s]] wr fun e w' => e = .returned (.tuple #[.slice none 0 0, .int .i64 0, .bool false]) ∧ Below wr.heap.size wr w' := cut_out 2 (by omega) a n c bs k m s wr hin (HH.out.below HBW.out) HL.out hn hc hn1 HM.out.2 HS.out.2
        have HG := Lib.hid hG
        have hI := idx3_2
        clear hG hin
        go_wp2_with (go_at_call 17; refine HG.out.mono ?_; rintro e w5 ⟨rfl, hb5⟩)
        go_roundw
        case rel => exact ⟨2 + 1, by omega, by go_num, HBR.out.trans (hb5.mono hzz)⟩
        case measure => simp [intOf]
        
      · go_wp2
        go_ret
        exact ⟨rfl, HBW.out⟩
        
end Go.Proofs.Ytfgkmgabldjpaaa
