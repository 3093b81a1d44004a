
/- The walk of CoverMorx. No condition but that a word is one of 32 bits, a direction one of 64. -/
import Derived.Test.YtjkgkjdhehbepaaCLaws
namespace Go.Proofs.Ytjkgkjdhehbepaa
open Go.RowKit

theorem idxI0 (a b c d : Value) (w : World) : (Instr.index 31 (.agg #[a, b, c, d]) (.int .i64 0)).run Try.prog w = .ok a w := by kernel_rfl
theorem idxI1 (a b c d : Value) (w : World) : (Instr.index 31 (.agg #[a, b, c, d]) (.int .i64 1)).run Try.prog w = .ok b w := by kernel_rfl
theorem idxI2 (a b c d : Value) (w : World) : (Instr.index 31 (.agg #[a, b, c, d]) (.int .i64 2)).run Try.prog w = .ok c w := by kernel_rfl
theorem idxI3 (a b c d : Value) (w : World) : (Instr.index 31 (.agg #[a, b, c, d]) (.int .i64 3)).run Try.prog w = .ok d w := by kernel_rfl
theorem isD_le (d : Int) : isD d = (decide (0 ≤ d) && decide (d ≤ 2)) := by
  rw [isD_def, Bool.eq_iff_iff]
  simp only [Bool.or_eq_true, beq_iff_eq, Bool.and_eq_true, decide_eq_true_eq]
  omega
theorem same_runs (v x : Bool) (p q : Bool) : ((p && (v == q)) || (x && p)) = (p && (x || (v == q))) := by
  cases v <;> cases x <;> cases p <;> cases q <;> rfl
theorem same_turned (b y q : Bool) : (if y then b else !(b == q)) = (if q && !y then !b else b) := by
  cases b <;> cases y <;> cases q <;> rfl
set_option maxRecDepth 100000 in
set_option maxHeartbeats 3200000 in
theorem coverMorx_walk (k : Nat) (d : Int) (w : World) (h : k ≤ 4294967295) : Calls Try.prog 3 #[.int .u32 (k : Nat), .int .i64 d] w fun e w' => e = .returned (.bool true) ∧ Below w.heap.size w w' := by
  have HM := Lib.hid (fun W => ofMorx_any k h W)
  have HKI := Lib.hid (fun W => kind_any k W h)
  have HVE := Lib.hid (fun W => vert_any k W h)
  have HR := Lib.hid (fun d W => rruns_any k d W h)
  have HT := Lib.hid (fun d W => rturned_any k d W h)
  obtain ⟨_, _, b29, b28, _⟩ := bits_any k h
  clear h
  generalize bt k 31 = v at *
  generalize bt k 30 = b at *
  generalize bt k 29 = x at *
  generalize bt k 28 = y at *
  have HMR := Lib.hid (fun d W => show Calls Try.prog 10 #[.agg #[.int .i64 ((k : Int) % 256), .bool v, .bool b, .bool x, .bool y], .int .i64 d] W fun e w' => e = .returned (.bool (isD d && (x || (v == (d == 2))))) ∧ Below W.heap.size W w' from same_runs v x (isD d) (d == 2) ▸ mruns_any ((k : Int) % 256) d v b x y W)
  have HMT := Lib.hid (fun d W => show Calls Try.prog 12 #[.agg #[.int .i64 ((k : Int) % 256), .bool v, .bool b, .bool x, .bool y], .int .i64 d] W fun e w' => e = .returned (.bool (if (d == 1) && !y then !b else b)) ∧ Below W.heap.size W w' from same_turned b y (d == 1) ▸ mturned_any ((k : Int) % 256) d v b x y W)
  have hAC := allocC
  have hAF := allocF
  go_enter Try.func3, Try.ntmps3
  go_wp2_with (first
    | (go_at_call 6; (with_reducible refine (speaks10_any _).mono ?_); rintro e w1 ⟨rfl, hb1⟩; have h1c := bc hb1; have h1f := bf hb1; have h1z := hb1.size; try simp only [World.size_alloc, World.size_drew] at h1z)
    | (go_at_call 7; (with_reducible refine (HM.out _).mono ?_); rintro e w2 ⟨rfl, hb2⟩; have h2c := bc hb2; have h2f := bf hb2; have h2z := hb2.size; try simp only [World.size_alloc, World.size_drew] at h2z))
  obtain ⟨V, hV⟩ : ∃ V, V = w2.alloc (Obj.cells #[.int .i64 ((k : Int) % 256), .bool v, .bool b, .bool x, .bool y] 27) := ⟨_, rfl⟩
  have hb : Below w.heap.size w V := by rw [hV]; exact (by repeat (first | exact brefl _ | assumption | refine balloc ?_ _ | refine bdrew ?_ _ | refine bdrew1 ?_ | refine bthen ?_ (by assumption) | refine Below.trans ?_ (by assumption) | (refine bset ?_ (by first | (simp; done) | (simp; omega)) _)))
  have e0 : V.cell? ⟨w2.heap.size, 0, none⟩ = some (.int .i64 ((k : Int) % 256)) := by rw [hV]; simp [hAC]
  have e1 : V.cell? ⟨w2.heap.size, 1, none⟩ = some (.bool v) := by rw [hV]; simp [hAC]
  have e2 : V.cell? ⟨w2.heap.size, 2, none⟩ = some (.bool b) := by rw [hV]; simp [hAC]
  have e3 : V.cell? ⟨w2.heap.size, 3, none⟩ = some (.bool x) := by rw [hV]; simp [hAC]
  have e4 : V.cell? ⟨w2.heap.size, 4, none⟩ = some (.bool y) := by rw [hV]; simp [hAC]
  have hz : w2.heap.size < V.heap.size := by rw [hV]; simp
  rw [← hV]
  have HBV := Lib.hid hb
  clear hV hb
  generalize w2.heap.size = g at *
  clear h1c h1f h2c h2f h1z h2z hb1 hb2
  refine wp_region_tree (.step 0 (.step 1 (.step 2 (.step 3 (.step 4 (.step 5 (.step 6 (.step 7 (.step 8 (.step 9 (.step 10 (.step 11 (.step 12 (.step 13 (.step 14 (.step 15 (.step 16 (.step 17 (.step 18 (.step 19 (.step 20 (.step 21 (.step 22 (.step 23 (.step 24 (.step 25 (.step 26 (.step 27 (.step 28 (.step 29 .nil)))))))))))))))))))))))))))))) (by kernel_rfl) (by kernel_rfl) (by kernel_rfl) (by kernel_rfl) (by intro _ _ d_ _ _ h_; cases d_ <;> first | exact h_ | (dsimp +zetaDelta only at h_ ⊢; exact h_)) (fun w' => ∃ p : Wld V [], w' = p.val) (wld_start _ _) ?_
  have hG_ := @wldC V
  (refine tree_quiet (by simp only [List.getElem?_toArray, List.getElem?_cons_succ, List.getElem?_cons_zero]; rfl) (by rfl) (by rfl) (fun K_ hK_ => ?_); go_big_quiet_op; refine hK_ _ ?_; clear hK_ K_)
  (refine tree_quiet (by simp only [List.getElem?_toArray, List.getElem?_cons_succ, List.getElem?_cons_zero]; rfl) (by rfl) (by rfl) (fun K_ hK_ => ?_); go_big_quiet_op; refine hK_ _ ?_; clear hK_ K_)
  (refine tree_quiet (by simp only [List.getElem?_toArray, List.getElem?_cons_succ, List.getElem?_cons_zero]; rfl) (by rfl) (by rfl) (fun K_ hK_ => ?_); go_big_quiet_op; refine hK_ _ ?_; clear hK_ K_)
  (refine tree_quiet (by simp only [List.getElem?_toArray, List.getElem?_cons_succ, List.getElem?_cons_zero]; rfl) (by rfl) (by rfl) (fun K_ hK_ => ?_); go_big_quiet_op; refine hK_ _ ?_; clear hK_ K_)
  (refine tree_run (by simp only [List.getElem?_toArray, List.getElem?_cons_succ, List.getElem?_cons_zero]; rfl) (by rfl) (by rfl) (fun K_ hK_ => ?_); have HK_ := Lib.hid hK_; clear hK_; go_wp2_with (first
    | (go_at_call 8; (with_reducible refine (HKI.out _).mono ?_); rintro e wa ⟨rfl, hba⟩; have hac := bc hba; have haf := bf hba; have haz := hba.size; try simp only [World.size_alloc, World.size_drew] at haz)
    | (go_at_call 9; (with_reducible refine (HVE.out _).mono ?_); rintro e wb ⟨rfl, hbb⟩; have hbc := bc hbb; have hbf := bf hbb; have hbz := hbb.size; try simp only [World.size_alloc, World.size_drew] at hbz)); refine HK_.out _ _ (wld_of (by repeat (first | exact same_below (brefl _) | exact same_realloc (by simp) | exact same_below (bdrew1 (brefl _)) | assumption | refine same_drew ?_ | refine same_then ?_ (by assumption) | refine same_alloc ?_ _ | (refine same_set ?_ (by first | (left; simp; done) | (right; simp; done) | (right; simp; omega)) _)))) ?_; clear HK_)
  (refine tree_quiet (by simp only [List.getElem?_toArray, List.getElem?_cons_succ, List.getElem?_cons_zero]; rfl) (by rfl) (by rfl) (fun K_ hK_ => ?_); go_big_quiet_op; refine hK_ _ ?_; clear hK_ K_)
  (refine tree_quiet (by simp only [List.getElem?_toArray, List.getElem?_cons_succ, List.getElem?_cons_zero]; rfl) (by rfl) (by rfl) (fun K_ hK_ => ?_); go_big_quiet_op; refine hK_ _ ?_; clear hK_ K_)
  (refine tree_quiet (by simp only [List.getElem?_toArray, List.getElem?_cons_succ, List.getElem?_cons_zero]; rfl) (by rfl) (by rfl) (fun K_ hK_ => ?_); go_big_quiet_op; refine hK_ _ ?_; clear hK_ K_)
  (refine tree_quiet (by simp only [List.getElem?_toArray, List.getElem?_cons_succ, List.getElem?_cons_zero]; rfl) (by rfl) (by rfl) (fun K_ hK_ => ?_); go_big_quiet_op; refine hK_ _ ?_; clear hK_ K_)
  (refine tree_quiet (by simp only [List.getElem?_toArray, List.getElem?_cons_succ, List.getElem?_cons_zero]; rfl) (by rfl) (by rfl) (fun K_ hK_ => ?_); go_big_quiet_op; refine hK_ _ ?_; clear hK_ K_)
  (refine tree_quiet (by simp only [List.getElem?_toArray, List.getElem?_cons_succ, List.getElem?_cons_zero]; rfl) (by rfl) (by rfl) (fun K_ hK_ => ?_); go_big_quiet_op; refine hK_ _ ?_; clear hK_ K_)
  (refine tree_run (by simp only [List.getElem?_toArray, List.getElem?_cons_succ, List.getElem?_cons_zero]; rfl) (by rfl) (by rfl) (fun K_ hK_ => ?_); have HK_ := Lib.hid hK_; clear hK_; go_wp2_with (first
    | (go_at_call 8; (with_reducible refine (HKI.out _).mono ?_); rintro e wa ⟨rfl, hba⟩; have hac := bc hba; have haf := bf hba; have haz := hba.size; try simp only [World.size_alloc, World.size_drew] at haz)
    | (go_at_call 9; (with_reducible refine (HVE.out _).mono ?_); rintro e wb ⟨rfl, hbb⟩; have hbc := bc hbb; have hbf := bf hbb; have hbz := hbb.size; try simp only [World.size_alloc, World.size_drew] at hbz)); refine HK_.out _ _ (wld_of (by repeat (first | exact same_below (brefl _) | exact same_realloc (by simp) | exact same_below (bdrew1 (brefl _)) | assumption | refine same_drew ?_ | refine same_then ?_ (by assumption) | refine same_alloc ?_ _ | (refine same_set ?_ (by first | (left; simp; done) | (right; simp; done) | (right; simp; omega)) _)))) ?_; clear HK_)
  (refine tree_quiet (by simp only [List.getElem?_toArray, List.getElem?_cons_succ, List.getElem?_cons_zero]; rfl) (by rfl) (by rfl) (fun K_ hK_ => ?_); go_big_quiet_op; refine hK_ _ ?_; clear hK_ K_)
  (refine tree_quiet (by simp only [List.getElem?_toArray, List.getElem?_cons_succ, List.getElem?_cons_zero]; rfl) (by rfl) (by rfl) (fun K_ hK_ => ?_); go_big_quiet_op; refine hK_ _ ?_; clear hK_ K_)
  (refine tree_quiet (by simp only [List.getElem?_toArray, List.getElem?_cons_succ, List.getElem?_cons_zero]; rfl) (by rfl) (by rfl) (fun K_ hK_ => ?_); go_big_quiet_op; refine hK_ _ ?_; clear hK_ K_)
  (refine tree_quiet (by simp only [List.getElem?_toArray, List.getElem?_cons_succ, List.getElem?_cons_zero]; rfl) (by rfl) (by rfl) (fun K_ hK_ => ?_); go_big_quiet_op; refine hK_ _ ?_; clear hK_ K_)
  (refine tree_quiet (by simp only [List.getElem?_toArray, List.getElem?_cons_succ, List.getElem?_cons_zero]; rfl) (by rfl) (by rfl) (fun K_ hK_ => ?_); go_big_quiet_op; refine hK_ _ ?_; clear hK_ K_)
  (refine tree_quiet (by simp only [List.getElem?_toArray, List.getElem?_cons_succ, List.getElem?_cons_zero]; rfl) (by rfl) (by rfl) (fun K_ hK_ => ?_); go_big_quiet_op; refine hK_ _ ?_; clear hK_ K_)
  (refine tree_quiet (by simp only [List.getElem?_toArray, List.getElem?_cons_succ, List.getElem?_cons_zero]; rfl) (by rfl) (by rfl) (fun K_ hK_ => ?_); go_big_quiet_op; refine hK_ _ ?_; clear hK_ K_)
  (refine tree_quiet (by simp only [List.getElem?_toArray, List.getElem?_cons_succ, List.getElem?_cons_zero]; rfl) (by rfl) (by rfl) (fun K_ hK_ => ?_); go_big_quiet_op; refine hK_ _ ?_; clear hK_ K_)
  (refine tree_quiet (by simp only [List.getElem?_toArray, List.getElem?_cons_succ, List.getElem?_cons_zero]; rfl) (by rfl) (by rfl) (fun K_ hK_ => ?_); go_big_quiet_op; refine hK_ _ ?_; clear hK_ K_)
  (refine tree_quiet (by simp only [List.getElem?_toArray, List.getElem?_cons_succ, List.getElem?_cons_zero]; rfl) (by rfl) (by rfl) (fun K_ hK_ => ?_); go_big_quiet_op; refine hK_ _ ?_; clear hK_ K_)
  (refine tree_quiet (by simp only [List.getElem?_toArray, List.getElem?_cons_succ, List.getElem?_cons_zero]; rfl) (by rfl) (by rfl) (fun K_ hK_ => ?_); go_big_quiet_op; refine hK_ _ ?_; clear hK_ K_)
  (refine tree_quiet (by simp only [List.getElem?_toArray, List.getElem?_cons_succ, List.getElem?_cons_zero]; rfl) (by rfl) (by rfl) (fun K_ hK_ => ?_); go_big_quiet_op; refine hK_ _ ?_; clear hK_ K_)
  (refine tree_quiet (by simp only [List.getElem?_toArray, List.getElem?_cons_succ, List.getElem?_cons_zero]; rfl) (by rfl) (by rfl) (fun K_ hK_ => ?_); go_big_quiet_op; refine hK_ _ ?_; clear hK_ K_)
  (refine tree_quiet (by simp only [List.getElem?_toArray, List.getElem?_cons_succ, List.getElem?_cons_zero]; rfl) (by rfl) (by rfl) (fun K_ hK_ => ?_); go_big_quiet_op; refine hK_ _ ?_; clear hK_ K_)
  (refine tree_quiet (by simp only [List.getElem?_toArray, List.getElem?_cons_succ, List.getElem?_cons_zero]; rfl) (by rfl) (by rfl) (fun K_ hK_ => ?_); go_big_quiet_op; refine hK_ _ ?_; clear hK_ K_)
  (refine tree_quiet (by simp only [List.getElem?_toArray, List.getElem?_cons_succ, List.getElem?_cons_zero]; rfl) (by rfl) (by rfl) (fun K_ hK_ => ?_); go_big_quiet_op; refine hK_ _ ?_; clear hK_ K_)
  (refine tree_quiet (by simp only [List.getElem?_toArray, List.getElem?_cons_succ, List.getElem?_cons_zero]; rfl) (by rfl) (by rfl) (fun K_ hK_ => ?_); go_big_quiet_op; refine hK_ _ ?_; clear hK_ K_)
  (refine tree_quiet (by simp only [List.getElem?_toArray, List.getElem?_cons_succ, List.getElem?_cons_zero]; rfl) (by rfl) (by rfl) (fun K_ hK_ => ?_); go_big_quiet_op; refine hK_ _ ?_; clear hK_ K_)
  refine tree_nil ?_
  clear hG_
  have hbb : Below V.heap.size V wb := (by repeat (first | exact brefl _ | assumption | refine balloc ?_ _ | refine bdrew ?_ _ | refine bdrew1 ?_ | refine bthen ?_ (by assumption) | refine Below.trans ?_ (by assumption) | (refine bset ?_ (by first | (simp; done) | (simp; omega)) _)))
  have HBB := Lib.hid hbb
  clear hba hbb
  go_wp2_with fail
  have hx0 := idxI0 (.int .i64 0) (.int .i64 1) (.int .i64 2) (.int .i64 d)
  have hx1 := idxI1 (.int .i64 0) (.int .i64 1) (.int .i64 2) (.int .i64 d)
  have hx2 := idxI2 (.int .i64 0) (.int .i64 1) (.int .i64 2) (.int .i64 d)
  have hx3 := idxI3 (.int .i64 0) (.int .i64 1) (.int .i64 2) (.int .i64 d)
  go_loopw [44] (fun i wr => (i = .int .i64 0 ∨ i = .int .i64 1 ∨ i = .int .i64 2 ∨ i = .int .i64 3 ∨ i = .int .i64 4) ∧ Below V.heap.size V wr) (fun i _ => 4 - (intOf i).toNat)
  case atStart => exact ⟨.inl rfl, HBB.out⟩
  case round =>
    obtain ⟨hi, hbr⟩ := hrel
    rename World => wr
    have c0 := (hbr.cell (p := ⟨g, 0, none⟩) hz).trans e0
    have c1 := (hbr.cell (p := ⟨g, 1, none⟩) hz).trans e1
    have c2 := (hbr.cell (p := ⟨g, 2, none⟩) hz).trans e2
    have c3 := (hbr.cell (p := ⟨g, 3, none⟩) hz).trans e3
    have c4 := (hbr.cell (p := ⟨g, 4, none⟩) hz).trans e4
    have hzr : g < wr.heap.size := Nat.lt_of_lt_of_le hz hbr.size
    have HBR := Lib.hid hbr
    clear e0 e1 e2 e3 e4 hbr HM HKI HVE
    rcases hi with rfl | rfl | rfl | rfl | rfl
    · have HMR1 := Lib.hid (fun W => HMR.out (0) W)
      have HMT1 := Lib.hid (fun W => HMT.out (0) W)
      have HR1 := Lib.hid (fun W => HR.out (0) W)
      have HT1 := Lib.hid (fun W => HT.out (0) W)
      have HI1 := Lib.hid (fun W => show Calls Try.prog 14 #[.int .i64 0] W fun e w' => e = .returned (.bool true) ∧ Below W.heap.size W w' from is_any 0 W)
      generalize (isD (0) && (x || (v == ((0 : Int) == 2)))) = rB at *
      generalize (if ((0 : Int) == 1) && !y then !b else b) = tB at *
      go_wp2_with (first
        | (go_at_call 10; (with_reducible refine (HMR1.out _).mono ?_); rintro e w11 ⟨rfl, hb11⟩; have h11c := bc hb11; have h11f := bf hb11; have h11z := hb11.size; try simp only [World.size_alloc, World.size_drew] at h11z)
        | (go_at_call 11; (with_reducible refine (HR1.out _).mono ?_); rintro e w12 ⟨rfl, hb12⟩; have h12c := bc hb12; have h12f := bf hb12; have h12z := hb12.size; try simp only [World.size_alloc, World.size_drew] at h12z)
        | (go_at_call 12; (with_reducible refine (HMT1.out _).mono ?_); rintro e w13 ⟨rfl, hb13⟩; have h13c := bc hb13; have h13f := bf hb13; have h13z := hb13.size; try simp only [World.size_alloc, World.size_drew] at h13z)
        | (go_at_call 13; (with_reducible refine (HT1.out _).mono ?_); rintro e w14 ⟨rfl, hb14⟩; have h14c := bc hb14; have h14f := bf hb14; have h14z := hb14.size; try simp only [World.size_alloc, World.size_drew] at h14z)
        | (go_at_call 14; (with_reducible refine (HI1.out _).mono ?_); rintro e w15 ⟨rfl, hb15⟩; have h15c := bc hb15; have h15f := bf hb15; have h15z := hb15.size; try simp only [World.size_alloc, World.size_drew] at h15z))
      go_roundw
      case rel => exact ⟨.inr (.inl rfl), HBR.out.trans (Below.mono (show Below wr.heap.size wr _ from (by repeat (first | exact brefl _ | assumption | refine balloc ?_ _ | refine bdrew ?_ _ | refine bdrew1 ?_ | refine bthen ?_ (by assumption) | refine Below.trans ?_ (by assumption) | (refine bset ?_ (by first | (simp; done) | (simp; omega)) _)))) HBR.out.size)⟩
      case measure => simp [intOf]
    · have HMR1 := Lib.hid (fun W => HMR.out (1) W)
      have HMT1 := Lib.hid (fun W => HMT.out (1) W)
      have HR1 := Lib.hid (fun W => HR.out (1) W)
      have HT1 := Lib.hid (fun W => HT.out (1) W)
      have HI1 := Lib.hid (fun W => show Calls Try.prog 14 #[.int .i64 1] W fun e w' => e = .returned (.bool true) ∧ Below W.heap.size W w' from is_any 1 W)
      generalize (isD (1) && (x || (v == ((1 : Int) == 2)))) = rB at *
      generalize (if ((1 : Int) == 1) && !y then !b else b) = tB at *
      go_wp2_with (first
        | (go_at_call 10; (with_reducible refine (HMR1.out _).mono ?_); rintro e w11 ⟨rfl, hb11⟩; have h11c := bc hb11; have h11f := bf hb11; have h11z := hb11.size; try simp only [World.size_alloc, World.size_drew] at h11z)
        | (go_at_call 11; (with_reducible refine (HR1.out _).mono ?_); rintro e w12 ⟨rfl, hb12⟩; have h12c := bc hb12; have h12f := bf hb12; have h12z := hb12.size; try simp only [World.size_alloc, World.size_drew] at h12z)
        | (go_at_call 12; (with_reducible refine (HMT1.out _).mono ?_); rintro e w13 ⟨rfl, hb13⟩; have h13c := bc hb13; have h13f := bf hb13; have h13z := hb13.size; try simp only [World.size_alloc, World.size_drew] at h13z)
        | (go_at_call 13; (with_reducible refine (HT1.out _).mono ?_); rintro e w14 ⟨rfl, hb14⟩; have h14c := bc hb14; have h14f := bf hb14; have h14z := hb14.size; try simp only [World.size_alloc, World.size_drew] at h14z)
        | (go_at_call 14; (with_reducible refine (HI1.out _).mono ?_); rintro e w15 ⟨rfl, hb15⟩; have h15c := bc hb15; have h15f := bf hb15; have h15z := hb15.size; try simp only [World.size_alloc, World.size_drew] at h15z))
      go_roundw
      case rel => exact ⟨.inr (.inr (.inl rfl)), HBR.out.trans (Below.mono (show Below wr.heap.size wr _ from (by repeat (first | exact brefl _ | assumption | refine balloc ?_ _ | refine bdrew ?_ _ | refine bdrew1 ?_ | refine bthen ?_ (by assumption) | refine Below.trans ?_ (by assumption) | (refine bset ?_ (by first | (simp; done) | (simp; omega)) _)))) HBR.out.size)⟩
      case measure => simp [intOf]
    · have HMR1 := Lib.hid (fun W => HMR.out (2) W)
      have HMT1 := Lib.hid (fun W => HMT.out (2) W)
      have HR1 := Lib.hid (fun W => HR.out (2) W)
      have HT1 := Lib.hid (fun W => HT.out (2) W)
      have HI1 := Lib.hid (fun W => show Calls Try.prog 14 #[.int .i64 2] W fun e w' => e = .returned (.bool true) ∧ Below W.heap.size W w' from is_any 2 W)
      generalize (isD (2) && (x || (v == ((2 : Int) == 2)))) = rB at *
      generalize (if ((2 : Int) == 1) && !y then !b else b) = tB at *
      go_wp2_with (first
        | (go_at_call 10; (with_reducible refine (HMR1.out _).mono ?_); rintro e w11 ⟨rfl, hb11⟩; have h11c := bc hb11; have h11f := bf hb11; have h11z := hb11.size; try simp only [World.size_alloc, World.size_drew] at h11z)
        | (go_at_call 11; (with_reducible refine (HR1.out _).mono ?_); rintro e w12 ⟨rfl, hb12⟩; have h12c := bc hb12; have h12f := bf hb12; have h12z := hb12.size; try simp only [World.size_alloc, World.size_drew] at h12z)
        | (go_at_call 12; (with_reducible refine (HMT1.out _).mono ?_); rintro e w13 ⟨rfl, hb13⟩; have h13c := bc hb13; have h13f := bf hb13; have h13z := hb13.size; try simp only [World.size_alloc, World.size_drew] at h13z)
        | (go_at_call 13; (with_reducible refine (HT1.out _).mono ?_); rintro e w14 ⟨rfl, hb14⟩; have h14c := bc hb14; have h14f := bf hb14; have h14z := hb14.size; try simp only [World.size_alloc, World.size_drew] at h14z)
        | (go_at_call 14; (with_reducible refine (HI1.out _).mono ?_); rintro e w15 ⟨rfl, hb15⟩; have h15c := bc hb15; have h15f := bf hb15; have h15z := hb15.size; try simp only [World.size_alloc, World.size_drew] at h15z))
      go_roundw
      case rel => exact ⟨.inr (.inr (.inr (.inl rfl))), HBR.out.trans (Below.mono (show Below wr.heap.size wr _ from (by repeat (first | exact brefl _ | assumption | refine balloc ?_ _ | refine bdrew ?_ _ | refine bdrew1 ?_ | refine bthen ?_ (by assumption) | refine Below.trans ?_ (by assumption) | (refine bset ?_ (by first | (simp; done) | (simp; omega)) _)))) HBR.out.size)⟩
      case measure => simp [intOf]
    · have HMR1 := Lib.hid (fun W => HMR.out d W)
      have HMT1 := Lib.hid (fun W => HMT.out d W)
      have HR1 := Lib.hid (fun W => HR.out d W)
      have HT1 := Lib.hid (fun W => HT.out d W)
      have HI1 := Lib.hid (fun W => is_any d W)
      rw [isD_le] at HI1
      generalize (isD d && (x || (v == (d == 2)))) = rB at *
      generalize (if (d == 1) && !y then !b else b) = tB at *
      by_cases h0 : 0 ≤ d
      · by_cases h2 : d ≤ 2
        · rw [decide_eq_true h0, decide_eq_true h2] at HI1
          go_wp2_with (first
            | (go_at_call 10; (with_reducible refine (HMR1.out _).mono ?_); rintro e w11 ⟨rfl, hb11⟩; have h11c := bc hb11; have h11f := bf hb11; have h11z := hb11.size; try simp only [World.size_alloc, World.size_drew] at h11z)
            | (go_at_call 11; (with_reducible refine (HR1.out _).mono ?_); rintro e w12 ⟨rfl, hb12⟩; have h12c := bc hb12; have h12f := bf hb12; have h12z := hb12.size; try simp only [World.size_alloc, World.size_drew] at h12z)
            | (go_at_call 12; (with_reducible refine (HMT1.out _).mono ?_); rintro e w13 ⟨rfl, hb13⟩; have h13c := bc hb13; have h13f := bf hb13; have h13z := hb13.size; try simp only [World.size_alloc, World.size_drew] at h13z)
            | (go_at_call 13; (with_reducible refine (HT1.out _).mono ?_); rintro e w14 ⟨rfl, hb14⟩; have h14c := bc hb14; have h14f := bf hb14; have h14z := hb14.size; try simp only [World.size_alloc, World.size_drew] at h14z)
            | (go_at_call 14; (with_reducible refine (HI1.out _).mono ?_); rintro e w15 ⟨rfl, hb15⟩; have h15c := bc hb15; have h15f := bf hb15; have h15z := hb15.size; try simp only [World.size_alloc, World.size_drew] at h15z))
          go_roundw
          case rel => exact ⟨.inr (.inr (.inr (.inr rfl))), HBR.out.trans (Below.mono (show Below wr.heap.size wr _ from (by repeat (first | exact brefl _ | assumption | refine balloc ?_ _ | refine bdrew ?_ _ | refine bdrew1 ?_ | refine bthen ?_ (by assumption) | refine Below.trans ?_ (by assumption) | (refine bset ?_ (by first | (simp; done) | (simp; omega)) _)))) HBR.out.size)⟩
          case measure => simp [intOf]
        · rw [decide_eq_true h0, decide_eq_false h2] at HI1
          go_wp2_with (first
            | (go_at_call 10; (with_reducible refine (HMR1.out _).mono ?_); rintro e w11 ⟨rfl, hb11⟩; have h11c := bc hb11; have h11f := bf hb11; have h11z := hb11.size; try simp only [World.size_alloc, World.size_drew] at h11z)
            | (go_at_call 11; (with_reducible refine (HR1.out _).mono ?_); rintro e w12 ⟨rfl, hb12⟩; have h12c := bc hb12; have h12f := bf hb12; have h12z := hb12.size; try simp only [World.size_alloc, World.size_drew] at h12z)
            | (go_at_call 12; (with_reducible refine (HMT1.out _).mono ?_); rintro e w13 ⟨rfl, hb13⟩; have h13c := bc hb13; have h13f := bf hb13; have h13z := hb13.size; try simp only [World.size_alloc, World.size_drew] at h13z)
            | (go_at_call 13; (with_reducible refine (HT1.out _).mono ?_); rintro e w14 ⟨rfl, hb14⟩; have h14c := bc hb14; have h14f := bf hb14; have h14z := hb14.size; try simp only [World.size_alloc, World.size_drew] at h14z)
            | (go_at_call 14; (with_reducible refine (HI1.out _).mono ?_); rintro e w15 ⟨rfl, hb15⟩; have h15c := bc hb15; have h15f := bf hb15; have h15z := hb15.size; try simp only [World.size_alloc, World.size_drew] at h15z))
          go_roundw
          case rel => exact ⟨.inr (.inr (.inr (.inr rfl))), HBR.out.trans (Below.mono (show Below wr.heap.size wr _ from (by repeat (first | exact brefl _ | assumption | refine balloc ?_ _ | refine bdrew ?_ _ | refine bdrew1 ?_ | refine bthen ?_ (by assumption) | refine Below.trans ?_ (by assumption) | (refine bset ?_ (by first | (simp; done) | (simp; omega)) _)))) HBR.out.size)⟩
          case measure => simp [intOf]
      · rw [decide_eq_false h0] at HI1
        go_wp2_with (first
            | (go_at_call 10; (with_reducible refine (HMR1.out _).mono ?_); rintro e w11 ⟨rfl, hb11⟩; have h11c := bc hb11; have h11f := bf hb11; have h11z := hb11.size; try simp only [World.size_alloc, World.size_drew] at h11z)
            | (go_at_call 11; (with_reducible refine (HR1.out _).mono ?_); rintro e w12 ⟨rfl, hb12⟩; have h12c := bc hb12; have h12f := bf hb12; have h12z := hb12.size; try simp only [World.size_alloc, World.size_drew] at h12z)
            | (go_at_call 12; (with_reducible refine (HMT1.out _).mono ?_); rintro e w13 ⟨rfl, hb13⟩; have h13c := bc hb13; have h13f := bf hb13; have h13z := hb13.size; try simp only [World.size_alloc, World.size_drew] at h13z)
            | (go_at_call 13; (with_reducible refine (HT1.out _).mono ?_); rintro e w14 ⟨rfl, hb14⟩; have h14c := bc hb14; have h14f := bf hb14; have h14z := hb14.size; try simp only [World.size_alloc, World.size_drew] at h14z)
            | (go_at_call 14; (with_reducible refine (HI1.out _).mono ?_); rintro e w15 ⟨rfl, hb15⟩; have h15c := bc hb15; have h15f := bf hb15; have h15z := hb15.size; try simp only [World.size_alloc, World.size_drew] at h15z))
        go_roundw
        case rel => exact ⟨.inr (.inr (.inr (.inr rfl))), HBR.out.trans (Below.mono (show Below wr.heap.size wr _ from (by repeat (first | exact brefl _ | assumption | refine balloc ?_ _ | refine bdrew ?_ _ | refine bdrew1 ?_ | refine bthen ?_ (by assumption) | refine Below.trans ?_ (by assumption) | (refine bset ?_ (by first | (simp; done) | (simp; omega)) _)))) HBR.out.size)⟩
        case measure => simp [intOf]
    · go_wp2_with fail
      go_ret
      exact ⟨rfl, HBV.out.trans (HBR.out.mono HBV.out.size)⟩
end Go.Proofs.Ytjkgkjdhehbepaa
