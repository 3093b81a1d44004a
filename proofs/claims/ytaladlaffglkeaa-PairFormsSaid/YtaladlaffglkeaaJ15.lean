/- Joined from: PrTakeP PrTakeK PrRead PrWrite. -/
import Derived.Test.YtaladlaffglkeaaJ14
import Derived.Test.YtaladlaffglkeaaJ08
import Derived.Test.YtaladlaffglkeaaJ01
import Derived.Test.YtaladlaffglkeaaJ09
section

/- takePairs and Take of a View: a subtable of distances of a kind. Conditions: as many bytes as the slice says. -/
namespace Go.Proofs.Ytaladlaffglkeaa
open Go.RowKit Go.Lib

set_option maxRecDepth 100000 in
set_option maxHeartbeats 6400000 in
theorem tpairs_any (M : Nat → Nat → Prop) (a : Option Addr) (n c : Nat) (bs : List UInt8) (w : World) (hF : FarH M a bs w) (hbl : bs.length = n) (hnc : n ≤ c) (hc : c ≤ maxLen) :
    Calls Try.prog 120 #[.agg #[.slice a n c]] w fun e w' => ((PListOk bs ∧ e = .returned (.agg #[.slice (adv a c 16) (6 * num bs 0 4) (c - 16)])) ∨ (¬ PListOk bs ∧ e = .panicked thrown)) ∧ Below w.heap.size w w' := by
  have hAC := allocC
  have hAF := allocF
  have HL := Lib.hid hbl
  have HFF := Lib.hid hF
  have HUB := Lib.hid (fun (z : Int) (hz : ¬ (0 ≤ z ∧ z + 4 ≤ (n : Int))) W => u32_bad a n c z W hz hnc hc)
  have HU := Lib.hid (fun (j : Nat) (z : Int) (hz : z = (j : Nat)) (W : World) (hW : Below w.heap.size w W) (hj : j + 4 ≤ n) => u32_z a n c j z hz bs W (hF.has.below hW) hbl hj hnc hc)
  have HPH := Lib.hid (fun (W : World) (hW : Below w.heap.size w W) => pairsB_has (c := c) (hF.below hW) (by omega))
  clear hF hbl
  obtain ⟨W, hW⟩ : ∃ W, W = (w.alloc (Obj.cells #[.slice a n c] 93)).alloc (Obj.cells #[.slice none 0 0] 93) := ⟨_, rfl⟩
  have hbW : Below w.heap.size w W := by rw [hW]; exact balloc (balloc (brefl w) _) _
  have hz : W.heap.size = w.heap.size + 2 := by rw [hW]; simp
  have z1 : W.heap[w.heap.size]? = some (.cells #[.slice a n c] 93 (0, 0)) := by rw [hW, heap_push, if_neg (by simp), heap_push, if_pos rfl]
  have z2 : W.heap[w.heap.size + 1]? = some (.cells #[.slice none 0 0] 93 (0, 0)) := by rw [hW, heap_push, if_pos (by simp)]
  have q1 := cell_of_heap z1 0
  simp only [List.getElem?_toArray, List.getElem?_cons_zero] at q1
  have l1 : w.heap.size < W.heap.size := by omega
  have l2 : w.heap.size + 1 < W.heap.size := by omega
  have HBW := Lib.hid hbW
  have Z2 := Lib.hid z2
  have HUW := Lib.hid (fun (j : Nat) (z : Int) (hz : z = (j : Nat)) (V : World) (hV : Below W.heap.size W V) (hj : j + 4 ≤ n) => HU.out j z hz V (HBW.out.trans (hV.mono HBW.out.size)) hj)
  have hzge : w.heap.size + 2 ≤ W.heap.size := Nat.le_of_eq hz.symm
  clear z1 z2 hbW hz
  by_cases hu : 4 ≤ n
  case neg =>
    have HNO := Lib.hid (show ¬ PListOk bs from fun ho => hu (by have := ho.len; rw [HL.out] at this; omega))
    have HB1 := Lib.hid (HUB.out 0 (by omega))
    go_enter Try.func120, Try.ntmps120
    go_wp2_with fail
    rw [← hW]
    clear hW
    refine wp_region_tree (.step 0 (.step 1 (.two 2 (.two 3 (.step 4 (.step 5 .nil)) 4 (.step 3 (.step 5 .nil))) 4 (.step 2 (.step 3 (.step 5 .nil)))))) (by kernel_rfl) (by kernel_rfl) (by kernel_rfl) (by kernel_rfl) (by intro _ _ d_ _ _ h_; cases d_ <;> first | exact h_ | (dsimp +zetaDelta only at h_ ⊢; exact h_)) (fun w' => ∃ p : Wld W [], w' = p.val) (wld_start _ _) ?_
    have hG_ := @wldC W
    (refine tree_quiet gtA (by rfl) (by rfl) (fun K_ hK_ => ?_); go_big_quiet_op; refine hK_ _ ?_; clear hK_ K_)
    (refine tree_quiet gtA (by rfl) (by rfl) (fun K_ hK_ => ?_); go_big_quiet_op; refine hK_ _ ?_; clear hK_ K_)
    refine tree_two gtA gtA (by rfl) (by rfl) (fun K_ hK_ => ?_) (fun K_ hK_ => ?_)
    · have HK_ := Lib.hid hK_; clear hK_; go_wp2_with ((go_at_call 88; (with_reducible refine (HB1.out _).mono ?_); rintro e wa ⟨rfl, hba⟩; have hac := bc hba; have haf := bf hba; have haz := hba.size; try simp only [World.size_alloc, World.size_drew] at haz)); exact ⟨rfl, .inr ⟨HNO.out, rfl⟩, HBW.out.trans (Below.mono (w := W) (by exact blw) HBW.out.size)⟩
    · have HK_ := Lib.hid hK_; clear hK_; go_wp2_with ((go_at_call 88; (with_reducible refine (HB1.out _).mono ?_); rintro e wa ⟨rfl, hba⟩; have hac := bc hba; have haf := bf hba; have haz := hba.size; try simp only [World.size_alloc, World.size_drew] at haz)); refine HK_.out _ _ (wld_ofA) ?_; clear HK_
      (refine tree_run gtA (by rfl) (by rfl) (fun K_ hK_ => ?_); have HK_ := Lib.hid hK_; clear hK_; go_wp2_with ((go_at_call 88; (with_reducible refine (HB1.out _).mono ?_); rintro e wa ⟨rfl, hba⟩; have hac := bc hba; have haf := bf hba; have haz := hba.size; try simp only [World.size_alloc, World.size_drew] at haz)); exact ⟨rfl, .inr ⟨HNO.out, rfl⟩, HBW.out.trans (Below.mono (w := W) (by exact blw) HBW.out.size)⟩)
  have HU1 := Lib.hid (fun V hV => HUW.out 0 0 rfl V hV hu)
  have hN4 := num4_lt bs 0
  obtain ⟨N, hN⟩ : ∃ N, N = num bs 0 4 := ⟨_, rfl⟩
  rw [← hN] at HU1 hN4
  have HN := Lib.hid hN
  by_cases hlen : 16 + 6 * N ≤ n
  case neg =>
    have HNO := Lib.hid (show ¬ PListOk bs from fun ho => hlen (by have := ho.len; rw [HL.out, ← HN.out] at this; exact this))
    have HB1 := Lib.hid (fun V => rows_bad a n c 16 (N : Nat) 6 V (by omega) (by omega) (by
      rintro ⟨_, h1, _, _, h2⟩
      apply hlen
      rcases h2 with h2 | h2
      · omega
      · simp only [Int.toNat_natCast, show (16 : Int).toNat = 16 from rfl, show (6 : Int).toNat = 6 from rfl] at h2
        omega) hnc hc)
    clear hN
    go_enter Try.func120, Try.ntmps120
    go_wp2_with fail
    rw [← hW]
    clear hW
    refine wp_region_tree (.step 0 (.step 1 (.two 2 (.two 3 (.step 4 (.step 5 .nil)) 4 (.step 3 (.step 5 .nil))) 4 (.step 2 (.step 3 (.step 5 .nil)))))) (by kernel_rfl) (by kernel_rfl) (by kernel_rfl) (by kernel_rfl) (by intro _ _ d_ _ _ h_; cases d_ <;> first | exact h_ | (dsimp +zetaDelta only at h_ ⊢; exact h_)) (fun w' => ∃ p : Wld W [], w' = p.val) (wld_start _ _) ?_
    have hG_ := @wldC W
    (refine tree_quiet gtA (by rfl) (by rfl) (fun K_ hK_ => ?_); go_big_quiet_op; refine hK_ _ ?_; clear hK_ K_)
    (refine tree_quiet gtA (by rfl) (by rfl) (fun K_ hK_ => ?_); go_big_quiet_op; refine hK_ _ ?_; clear hK_ K_)
    refine tree_two gtA gtA (by rfl) (by rfl) (fun K_ hK_ => ?_) (fun K_ hK_ => ?_)
    · have HK_ := Lib.hid hK_; clear hK_; go_wp2_with (first | (go_at_call 88; (with_reducible refine (HU1.out _ (by exact blw)).mono ?_); rintro e wa ⟨rfl, hba⟩; have hac := bc hba; have haf := bf hba; have haz := hba.size; try simp only [World.size_alloc, World.size_drew] at haz) | (go_at_call 142; (with_reducible refine (HB1.out _).mono ?_); rintro e wb ⟨rfl, hbb⟩; have hbc := bc hbb; have hbf := bf hbb; have hbz := hbb.size; try simp only [World.size_alloc, World.size_drew] at hbz)); refine HK_.out _ _ (wld_ofA) ?_; clear HK_
      refine tree_two gtA gtA (by rfl) (by rfl) (fun K_ hK_ => ?_) (fun K_ hK_ => ?_)
      · have HK_ := Lib.hid hK_; clear hK_; go_wp2_with (first | (go_at_call 88; (with_reducible refine (HU1.out _ (by exact blw)).mono ?_); rintro e wa ⟨rfl, hba⟩; have hac := bc hba; have haf := bf hba; have haz := hba.size; try simp only [World.size_alloc, World.size_drew] at haz) | (go_at_call 142; (with_reducible refine (HB1.out _).mono ?_); rintro e wb ⟨rfl, hbb⟩; have hbc := bc hbb; have hbf := bf hbb; have hbz := hbb.size; try simp only [World.size_alloc, World.size_drew] at hbz)); exact ⟨rfl, .inr ⟨HNO.out, rfl⟩, HBW.out.trans (Below.mono (w := W) (by exact blw) HBW.out.size)⟩
      · have HK_ := Lib.hid hK_; clear hK_; go_wp2_with (first | (go_at_call 88; (with_reducible refine (HU1.out _ (by exact blw)).mono ?_); rintro e wa ⟨rfl, hba⟩; have hac := bc hba; have haf := bf hba; have haz := hba.size; try simp only [World.size_alloc, World.size_drew] at haz) | (go_at_call 142; (with_reducible refine (HB1.out _).mono ?_); rintro e wb ⟨rfl, hbb⟩; have hbc := bc hbb; have hbf := bf hbb; have hbz := hbb.size; try simp only [World.size_alloc, World.size_drew] at hbz)); refine HK_.out _ _ (wld_ofA) ?_; clear HK_
        (refine tree_run gtA (by rfl) (by rfl) (fun K_ hK_ => ?_); have HK_ := Lib.hid hK_; clear hK_; go_wp2_with (first | (go_at_call 88; (with_reducible refine (HU1.out _ (by exact blw)).mono ?_); rintro e wa ⟨rfl, hba⟩; have hac := bc hba; have haf := bf hba; have haz := hba.size; try simp only [World.size_alloc, World.size_drew] at haz) | (go_at_call 142; (with_reducible refine (HB1.out _).mono ?_); rintro e wb ⟨rfl, hbb⟩; have hbc := bc hbb; have hbf := bf hbb; have hbz := hbb.size; try simp only [World.size_alloc, World.size_drew] at hbz)); exact ⟨rfl, .inr ⟨HNO.out, rfl⟩, HBW.out.trans (Below.mono (w := W) (by exact blw) HBW.out.size)⟩)
    · have HK_ := Lib.hid hK_; clear hK_; go_wp2_with (first | (go_at_call 88; (with_reducible refine (HU1.out _ (by exact blw)).mono ?_); rintro e wa ⟨rfl, hba⟩; have hac := bc hba; have haf := bf hba; have haz := hba.size; try simp only [World.size_alloc, World.size_drew] at haz) | (go_at_call 142; (with_reducible refine (HB1.out _).mono ?_); rintro e wb ⟨rfl, hbb⟩; have hbc := bc hbb; have hbf := bf hbb; have hbz := hbb.size; try simp only [World.size_alloc, World.size_drew] at hbz)); refine HK_.out _ _ (wld_ofA) ?_; clear HK_
      (refine tree_run gtA (by rfl) (by rfl) (fun K_ hK_ => ?_); have HK_ := Lib.hid hK_; clear hK_; go_wp2_with (first | (go_at_call 88; (with_reducible refine (HU1.out _ (by exact blw)).mono ?_); rintro e wa ⟨rfl, hba⟩; have hac := bc hba; have haf := bf hba; have haz := hba.size; try simp only [World.size_alloc, World.size_drew] at haz) | (go_at_call 142; (with_reducible refine (HB1.out _).mono ?_); rintro e wb ⟨rfl, hbb⟩; have hbc := bc hbb; have hbf := bf hbb; have hbz := hbb.size; try simp only [World.size_alloc, World.size_drew] at hbz)); refine HK_.out _ _ (wld_ofA) ?_; clear HK_)
      (refine tree_run gtA (by rfl) (by rfl) (fun K_ hK_ => ?_); have HK_ := Lib.hid hK_; clear hK_; go_wp2_with (first | (go_at_call 88; (with_reducible refine (HU1.out _ (by exact blw)).mono ?_); rintro e wa ⟨rfl, hba⟩; have hac := bc hba; have haf := bf hba; have haz := hba.size; try simp only [World.size_alloc, World.size_drew] at haz) | (go_at_call 142; (with_reducible refine (HB1.out _).mono ?_); rintro e wb ⟨rfl, hbb⟩; have hbc := bc hbb; have hbf := bf hbb; have hbz := hbb.size; try simp only [World.size_alloc, World.size_drew] at hbz)); exact ⟨rfl, .inr ⟨HNO.out, rfl⟩, HBW.out.trans (Below.mono (w := W) (by exact blw) HBW.out.size)⟩)
  have HR1 := Lib.hid (fun V => rows_z a n c 16 N 6 (6 * N) 16 (N : Nat) 6 rfl rfl rfl V (by omega) (by omega) (.inr (by omega)) (by omega) (by omega) hnc hc)
  have hpl : (pairsB bs).length = 6 * N := by rw [pairsB_length (by rw [HL.out, ← hN]; exact hlen), ← hN]
  have HPL := Lib.hid hpl
  have HP4 := Lib.hid (fun i hi => pairsB_num4 bs i (by rw [← hN]; exact hi))
  clear hN hpl
  go_enter Try.func120, Try.ntmps120
  go_wp2_with fail
  rw [← hW]
  clear hW
  apply cutP (R := ∀ (g_ : Nat) (x_ : Nat → Value) (W_ : World), (fun g3 V3 => Below W.heap.size W V3 ∧ W.heap.size ≤ g3 ∧ V3.heap[g3]? = some (.cells #[.slice (adv a c 16) (6 * N) (c - 16)] 93 (0, 0))) g_ W_ → _)
  · intro hfin_
    refine wp_region_tree (.step 0 (.step 1 (.two 2 (.two 3 (.step 4 (.step 5 .nil)) 4 (.step 3 (.step 5 .nil))) 4 (.step 2 (.step 3 (.step 5 .nil)))))) (by kernel_rfl) (by kernel_rfl) (by kernel_rfl) (by kernel_rfl) (by intro _ _ d_ _ _ h_; cases d_ <;> first | exact h_ | (dsimp +zetaDelta only at h_ ⊢; exact h_)) (fun w' => ∃ p : Wld W [], w' = p.val) (wld_start _ _) ?_
    have hG_ := @wldC W
    (refine tree_quiet gtA (by rfl) (by rfl) (fun K_ hK_ => ?_); go_big_quiet_op; refine hK_ _ ?_; clear hK_ K_)
    (refine tree_quiet gtA (by rfl) (by rfl) (fun K_ hK_ => ?_); go_big_quiet_op; refine hK_ _ ?_; clear hK_ K_)
    refine tree_two gtA gtA (by rfl) (by rfl) (fun K_ hK_ => ?_) (fun K_ hK_ => ?_)
    · have HK_ := Lib.hid hK_; clear hK_; go_wp2_with (first | (go_at_call 88; (with_reducible refine (HU1.out _ (by exact blw)).mono ?_); rintro e wa ⟨rfl, hba⟩; have hac := bc hba; have haf := bf hba; have haz := hba.size; try simp only [World.size_alloc, World.size_drew] at haz) | (go_at_call 142; (with_reducible refine (HR1.out _).mono ?_); rintro e wb ⟨rfl, hbb⟩; have hbc := bc hbb; have hbf := bf hbb; have hbz := hbb.size; try simp only [World.size_alloc, World.size_drew] at hbz)); refine HK_.out _ _ (wld_ofA) ?_; clear HK_
      refine tree_two gtA gtA (by rfl) (by rfl) (fun K_ hK_ => ?_) (fun K_ hK_ => ?_)
      · have HK_ := Lib.hid hK_; clear hK_; go_wp2_with (first | (go_at_call 88; (with_reducible refine (HU1.out _ (by exact blw)).mono ?_); rintro e wa ⟨rfl, hba⟩; have hac := bc hba; have haf := bf hba; have haz := hba.size; try simp only [World.size_alloc, World.size_drew] at haz) | (go_at_call 142; (with_reducible refine (HR1.out _).mono ?_); rintro e wb ⟨rfl, hbb⟩; have hbc := bc hbb; have hbf := bf hbb; have hbz := hbb.size; try simp only [World.size_alloc, World.size_drew] at hbz)); refine HK_.out _ _ (wld_ofA) ?_; clear HK_
        (refine tree_run gtA (by rfl) (by rfl) (fun K_ hK_ => ?_); have HK_ := Lib.hid hK_; clear hK_; go_wp2_with (first | (go_at_call 88; (with_reducible refine (HU1.out _ (by exact blw)).mono ?_); rintro e wa ⟨rfl, hba⟩; have hac := bc hba; have haf := bf hba; have haz := hba.size; try simp only [World.size_alloc, World.size_drew] at haz) | (go_at_call 142; (with_reducible refine (HR1.out _).mono ?_); rintro e wb ⟨rfl, hbb⟩; have hbc := bc hbb; have hbf := bf hbb; have hbz := hbb.size; try simp only [World.size_alloc, World.size_drew] at hbz)); refine HK_.out _ _ (wld_ofA) ?_; clear HK_)
        (refine tree_run gtA (by rfl) (by rfl) (fun K_ hK_ => ?_); have HK_ := Lib.hid hK_; clear hK_; go_wp2_with (first | (go_at_call 88; (with_reducible refine (HU1.out _ (by exact blw)).mono ?_); rintro e wa ⟨rfl, hba⟩; have hac := bc hba; have haf := bf hba; have haz := hba.size; try simp only [World.size_alloc, World.size_drew] at haz) | (go_at_call 142; (with_reducible refine (HR1.out _).mono ?_); rintro e wb ⟨rfl, hbb⟩; have hbc := bc hbb; have hbf := bf hbb; have hbz := hbb.size; try simp only [World.size_alloc, World.size_drew] at hbz)); refine HK_.out _ _ (wld_ofA) ?_; clear HK_)
        refine tree_nil ?_
        refine leaf_any 3 [] (fun g3 V3 => Below W.heap.size W V3 ∧ W.heap.size ≤ g3 ∧ V3.heap[g3]? = some (.cells #[.slice (adv a c 16) (6 * N) (c - 16)] 93 (0, 0))) _ (by rfl) (by first | (simp only [blank, List.setIfInBounds_toArray, List.set_cons_succ, List.set_cons_zero]; rfl) | simp only [blank, List.setIfInBounds_toArray, List.set_cons_succ, List.set_cons_zero]) (hfin_ ()) ?_
        (refine ⟨blw, ?_, ?_⟩ <;> first | omega | (simp only [World.size_setCell, World.size_alloc, World.size_drew]; omega) | (with_reducible exact heap_set_new (by assumption)) | (with_reducible exact heap_set_new (bthen (by assumption) (by assumption))) | (with_reducible exact heap_set_newd (by assumption)) | (with_reducible exact heap_set_newd (bthen (by assumption) (by assumption))) | (rw [heap_push, if_pos rfl]; done))
      · have HK_ := Lib.hid hK_; clear hK_; go_wp2_with (first | (go_at_call 88; (with_reducible refine (HU1.out _ (by exact blw)).mono ?_); rintro e wa ⟨rfl, hba⟩; have hac := bc hba; have haf := bf hba; have haz := hba.size; try simp only [World.size_alloc, World.size_drew] at haz) | (go_at_call 142; (with_reducible refine (HR1.out _).mono ?_); rintro e wb ⟨rfl, hbb⟩; have hbc := bc hbb; have hbf := bf hbb; have hbz := hbb.size; try simp only [World.size_alloc, World.size_drew] at hbz)); refine HK_.out _ _ (wld_ofA) ?_; clear HK_
        (refine tree_run gtA (by rfl) (by rfl) (fun K_ hK_ => ?_); have HK_ := Lib.hid hK_; clear hK_; go_wp2_with (first | (go_at_call 88; (with_reducible refine (HU1.out _ (by exact blw)).mono ?_); rintro e wa ⟨rfl, hba⟩; have hac := bc hba; have haf := bf hba; have haz := hba.size; try simp only [World.size_alloc, World.size_drew] at haz) | (go_at_call 142; (with_reducible refine (HR1.out _).mono ?_); rintro e wb ⟨rfl, hbb⟩; have hbc := bc hbb; have hbf := bf hbb; have hbz := hbb.size; try simp only [World.size_alloc, World.size_drew] at hbz)); refine HK_.out _ _ (wld_ofA) ?_; clear HK_)
        (refine tree_run gtA (by rfl) (by rfl) (fun K_ hK_ => ?_); have HK_ := Lib.hid hK_; clear hK_; go_wp2_with (first | (go_at_call 88; (with_reducible refine (HU1.out _ (by exact blw)).mono ?_); rintro e wa ⟨rfl, hba⟩; have hac := bc hba; have haf := bf hba; have haz := hba.size; try simp only [World.size_alloc, World.size_drew] at haz) | (go_at_call 142; (with_reducible refine (HR1.out _).mono ?_); rintro e wb ⟨rfl, hbb⟩; have hbc := bc hbb; have hbf := bf hbb; have hbz := hbb.size; try simp only [World.size_alloc, World.size_drew] at hbz)); refine HK_.out _ _ (wld_ofA) ?_; clear HK_)
        refine tree_nil ?_
        refine leaf_any 3 [] (fun g3 V3 => Below W.heap.size W V3 ∧ W.heap.size ≤ g3 ∧ V3.heap[g3]? = some (.cells #[.slice (adv a c 16) (6 * N) (c - 16)] 93 (0, 0))) _ (by rfl) (by first | (simp only [blank, List.setIfInBounds_toArray, List.set_cons_succ, List.set_cons_zero]; rfl) | simp only [blank, List.setIfInBounds_toArray, List.set_cons_succ, List.set_cons_zero]) (hfin_ ()) ?_
        (refine ⟨blw, ?_, ?_⟩ <;> first | omega | (simp only [World.size_setCell, World.size_alloc, World.size_drew]; omega) | (with_reducible exact heap_set_new (by assumption)) | (with_reducible exact heap_set_new (bthen (by assumption) (by assumption))) | (with_reducible exact heap_set_newd (by assumption)) | (with_reducible exact heap_set_newd (bthen (by assumption) (by assumption))) | (rw [heap_push, if_pos rfl]; done))
    · have HK_ := Lib.hid hK_; clear hK_; go_wp2_with (first | (go_at_call 88; (with_reducible refine (HU1.out _ (by exact blw)).mono ?_); rintro e wa ⟨rfl, hba⟩; have hac := bc hba; have haf := bf hba; have haz := hba.size; try simp only [World.size_alloc, World.size_drew] at haz) | (go_at_call 142; (with_reducible refine (HR1.out _).mono ?_); rintro e wb ⟨rfl, hbb⟩; have hbc := bc hbb; have hbf := bf hbb; have hbz := hbb.size; try simp only [World.size_alloc, World.size_drew] at hbz)); refine HK_.out _ _ (wld_ofA) ?_; clear HK_
      (refine tree_run gtA (by rfl) (by rfl) (fun K_ hK_ => ?_); have HK_ := Lib.hid hK_; clear hK_; go_wp2_with (first | (go_at_call 88; (with_reducible refine (HU1.out _ (by exact blw)).mono ?_); rintro e wa ⟨rfl, hba⟩; have hac := bc hba; have haf := bf hba; have haz := hba.size; try simp only [World.size_alloc, World.size_drew] at haz) | (go_at_call 142; (with_reducible refine (HR1.out _).mono ?_); rintro e wb ⟨rfl, hbb⟩; have hbc := bc hbb; have hbf := bf hbb; have hbz := hbb.size; try simp only [World.size_alloc, World.size_drew] at hbz)); refine HK_.out _ _ (wld_ofA) ?_; clear HK_)
      (refine tree_run gtA (by rfl) (by rfl) (fun K_ hK_ => ?_); have HK_ := Lib.hid hK_; clear hK_; go_wp2_with (first | (go_at_call 88; (with_reducible refine (HU1.out _ (by exact blw)).mono ?_); rintro e wa ⟨rfl, hba⟩; have hac := bc hba; have haf := bf hba; have haz := hba.size; try simp only [World.size_alloc, World.size_drew] at haz) | (go_at_call 142; (with_reducible refine (HR1.out _).mono ?_); rintro e wb ⟨rfl, hbb⟩; have hbc := bc hbb; have hbf := bf hbb; have hbz := hbb.size; try simp only [World.size_alloc, World.size_drew] at hbz)); refine HK_.out _ _ (wld_ofA) ?_; clear HK_)
      (refine tree_run gtA (by rfl) (by rfl) (fun K_ hK_ => ?_); have HK_ := Lib.hid hK_; clear hK_; go_wp2_with (first | (go_at_call 88; (with_reducible refine (HU1.out _ (by exact blw)).mono ?_); rintro e wa ⟨rfl, hba⟩; have hac := bc hba; have haf := bf hba; have haz := hba.size; try simp only [World.size_alloc, World.size_drew] at haz) | (go_at_call 142; (with_reducible refine (HR1.out _).mono ?_); rintro e wb ⟨rfl, hbb⟩; have hbc := bc hbb; have hbf := bf hbb; have hbz := hbb.size; try simp only [World.size_alloc, World.size_drew] at hbz)); refine HK_.out _ _ (wld_ofA) ?_; clear HK_)
      refine tree_nil ?_
      refine leaf_any 3 [] (fun g3 V3 => Below W.heap.size W V3 ∧ W.heap.size ≤ g3 ∧ V3.heap[g3]? = some (.cells #[.slice (adv a c 16) (6 * N) (c - 16)] 93 (0, 0))) _ (by rfl) (by first | (simp only [blank, List.setIfInBounds_toArray, List.set_cons_succ, List.set_cons_zero]; rfl) | simp only [blank, List.setIfInBounds_toArray, List.set_cons_succ, List.set_cons_zero]) (hfin_ ()) ?_
      (refine ⟨blw, ?_, ?_⟩ <;> first | omega | (simp only [World.size_setCell, World.size_alloc, World.size_drew]; omega) | (with_reducible exact heap_set_new (by assumption)) | (with_reducible exact heap_set_new (bthen (by assumption) (by assumption))) | (with_reducible exact heap_set_newd (by assumption)) | (with_reducible exact heap_set_newd (bthen (by assumption) (by assumption))) | (rw [heap_push, if_pos rfl]; done))
  intro g3 x3 V ⟨b3, hg3, h3⟩
  simp only [fill, List.setIfInBounds_toArray, List.set_cons_succ, List.set_cons_zero]
  have HBV := Lib.hid (HBW.out.trans (b3.mono HBW.out.size))
  have H3 := Lib.hid h3
  have l3 := (Array.getElem?_eq_some_iff.1 h3).1
  have q3 := cell_of_heap h3 0
  simp only [List.getElem?_toArray, List.getElem?_cons_zero] at q3
  have Y2 := Lib.hid ((b3.block _ l2).trans Z2.out)
  have hzV := b3.size
  have HLN := Lib.hid (fun U => len_any (adv a c 16) (6 * N) (c - 16) U)
  have hdv : IntKind.i64.wrap (((6 * N : Nat) : Int).tdiv 6) = (N : Int) := by rw [Int.tdiv_eq_ediv_of_nonneg (by omega), IntWalk.i64_in _ (by omega)]; omega
  clear b3 h3
  go_wp2_with (go_at_call 92; (with_reducible refine (HLN.out _).mono ?_); rintro e w1 ⟨rfl, hb1⟩; have HB1 := Lib.hid hb1; have hz1 := hb1.size; clear hb1)
  go_loopw [4, 14] (fun v i wr => ∃ (j : Nat) (z : Int), j ≤ N ∧ i = .int .i64 (j : Nat) ∧ v = .int .i64 z ∧ (j = 0 → z = -1) ∧ (∀ k, j = k + 1 → z = (num bs (16 + 6 * k) 4 : Nat)) ∧ (∀ i, i + 1 < j → num bs (16 + 6 * i) 4 < num bs (16 + 6 * (i + 1)) 4) ∧ Below V.heap.size V wr) (fun _ i _ => N - (Go.RowKit.intOf i).toNat)
  case atStart => exact ⟨0, -1, Nat.zero_le _, rfl, rfl, fun _ => rfl, fun k h => (by omega), fun i h => (by omega), HB1.out⟩
  case round =>
    obtain ⟨j, z, hj, rfl, rfl, hz0, hzk, hri, hb⟩ := hrel
    rename World => wr
    have HZ0 := Lib.hid hz0
    have HZK := Lib.hid hzk
    have HRI := Lib.hid hri
    have HB := Lib.hid hb
    have x3 := (hb.block _ l3).trans H3.out
    have q3 := cell_of_heap x3 0
    simp only [List.getElem?_toArray, List.getElem?_cons_zero] at q3
    have lw3 := (Array.getElem?_eq_some_iff.1 x3).1
    have hzr := hb.size
    clear hz0 hzk hri hb x3 HB1
    by_cases hlt : j < N
    · have HK := Lib.hid (fun (U : World) (hU : Below wr.heap.size wr U) => keyAt_any (adv a c 16) (6 * N) (c - 16) (pairsB bs) j U (HPH.out U (HBV.out.trans ((HB.out.trans (hU.mono hzr)).mono HBV.out.size))) HPL.out (by omega) (by omega) (Nat.le_trans (Nat.sub_le _ _) hc))
      rw [HP4.out j hlt] at HK
      obtain ⟨y, hy⟩ : ∃ y, y = num bs (16 + 6 * j) 4 := ⟨_, rfl⟩
      rw [← hy] at HK
      have HY := Lib.hid hy
      clear hy
      by_cases hzy : z < (y : Int)
      · have d1 : decide (z < (y : Int)) = true := by simpa using hzy
        have HND := Lib.hid (fun U => need_t (decide (z < (y : Int))) d1 U)
        go_wp2_with (first | (go_at_call 125; (with_reducible refine (HK.out _ (by exact blw)).mono ?_); rintro e wb ⟨rfl, hbb⟩; have hbc := bc hbb; have hbf := bf hbb; have hbz := hbb.size; try simp only [World.size_alloc, World.size_drew] at hbz) | (go_at_call 94; (with_reducible refine (need_t _ (by first | rfl | assumption | exact d1) _).mono ?_); rintro e w_ ⟨rfl, rfl⟩))
        go_roundw
        case rel =>
          refine ⟨j + 1, y, hlt, by go_num, rfl, fun h => (by omega), fun k hk => ?_, fun i hi => ?_, HB.out.trans (Below.mono (w := wr) (by exact blw) hzr)⟩
          · obtain rfl : k = j := by omega
            rw [HY.out]
          · by_cases e : i + 1 < j
            · exact HRI.out i e
            · have := HZK.out i (by omega)
              obtain rfl : j = i + 1 := by omega
              have := HY.out
              omega
        case measure => simp [Go.RowKit.intOf]; omega
      · have d1 : decide (z < (y : Int)) = false := by simpa using hzy
        have HNO := Lib.hid (show ¬ PListOk bs from fun ho => by
          cases j with
          | zero => have := HZ0.out rfl; omega
          | succ k =>
            have h1 := HZK.out k rfl
            have h2 := ho.rise k (by rw [← HN.out]; exact hlt)
            have := HY.out
            omega)
        go_wp2_with (first | (go_at_call 125; (with_reducible refine (HK.out _ (by exact blw)).mono ?_); rintro e wb ⟨rfl, hbb⟩; have hbc := bc hbb; have hbf := bf hbb; have hbz := hbb.size; try simp only [World.size_alloc, World.size_drew] at hbz) | (go_at_call 94; (with_reducible refine (need_f _ (by first | rfl | assumption | exact d1) _).mono ?_); rintro e w_ ⟨rfl, rfl⟩))
        exact ⟨rfl, .inr ⟨HNO.out, rfl⟩, HBV.out.trans ((HB.out.trans (Below.mono (w := wr) (by exact blw) hzr)).mono HBV.out.size)⟩
    · obtain rfl : N = j := by omega
      have y2 := (HB.out.block _ (Array.getElem?_eq_some_iff.1 Y2.out).1).trans Y2.out
      have f2 := froz_of_heap y2 0
      have q2 := cell_of_heap y2 0
      have ly2 := (Array.getElem?_eq_some_iff.1 y2).1
      have s2 := cell_of_heap (set_heap_at (o := 0) (.slice (adv a c 16) (6 * N) (c - 16)) y2) 0
      have HOK := Lib.hid (show PListOk bs from ⟨by rw [HL.out, ← HN.out]; exact hlen, fun i hi => HRI.out i (by rw [HN.out]; exact hi)⟩)
      clear y2
      go_wp2_with fail
      refine bodyPost_ret (v := .agg #[.slice (adv a c 16) (6 * N) (c - 16)]) (by simp [results, Try.results120, go_sem, s2]) rfl ?_
      refine ⟨.inl ⟨HOK.out, by rw [← HN.out]⟩, (HBV.out.trans (HB.out.mono HBV.out.size)).setCell (p := ⟨w.heap.size + 1, 0, none⟩) (by show w.heap.size ≤ w.heap.size + 1; omega) _⟩
end Go.Proofs.Ytaladlaffglkeaa
end
section

/- pair.Take of a View: a subtable of distances of a kind, or it is thrown. Conditions: as many bytes as the slice says. -/
namespace Go.Proofs.Ytaladlaffglkeaa
open Go.RowKit Go.Lib

theorem and_one (x : Nat) (h : x ≤ 4294967295) : bits .and .i64 (x : Int) 1 = ((x % 2 : Nat) : Int) := by
  show IntKind.i64.wrap (((BitVec.ofInt 64 (x : Int)) &&& (BitVec.ofInt 64 ((1 : Nat) : Int))).toNat : Int) = _
  rw [BitVec.toNat_and, ofInt64 _ (by omega), ofInt64 _ (by omega), IntKind.wrap_i64, Nat.and_one_is_mod]
  omega
def PTkIs (M : Nat → Nat → Prop) (bs : List UInt8) (kind : Int) (glyphs : Nat) (w : World) (e : Ending) (w' : World) : Prop :=
  ((∃ r1 r2 gx, PrOk bs kind glyphs r1 r2 ∧ e = .returned (.pointer (some ⟨gx, 0, none⟩)) ∧ PrIs M w.heap.size gx bs kind r1 r2 w' ∧ w.heap.size ≤ gx) ∨ ((∀ r1 r2, ¬ PrOk bs kind glyphs r1 r2) ∧ e = .panicked thrown)) ∧ Below w.heap.size w w'
theorem sizI_or (bs : List UInt8) : sizI bs = 2 ∨ sizI bs = 4 := by unfold sizI; split <;> simp
set_option maxRecDepth 100000 in
set_option maxHeartbeats 6400000 in
theorem ptake_any (M : Nat → Nat → Prop) (a : Option Addr) (n c : Nat) (bs : List UInt8) (kind : Int) (glyphs : Nat) (zg : Int) (hzg : zg = (glyphs : Nat)) (w : World) (hF : FarH M a bs w) (hbl : bs.length = n) (hnc : n ≤ c) (hc : c ≤ maxLen) (hg1 : 1 ≤ glyphs) (hg2 : glyphs ≤ 65535) :
    Calls Try.prog 73 #[.int .i64 kind, .agg #[.slice a n c], .int .i64 zg] w (PTkIs M bs kind glyphs w) := by
  have hAC := allocC
  have hAF := allocF
  subst hzg
  have HL := Lib.hid hbl
  have HFF := Lib.hid hF
  obtain ⟨W, hW⟩ : ∃ W, W = w.alloc (Obj.cells #[.slice a n c] 93) := ⟨_, rfl⟩
  have hbW : Below w.heap.size w W := by rw [hW]; exact balloc (brefl w) _
  have z2 : W.heap[w.heap.size]? = some (.cells #[.slice a n c] 93 (0, 0)) := by rw [hW]; exact heap_new w _ _
  have q2 := cell_of_heap z2 0
  simp only [List.getElem?_toArray, List.getElem?_cons_zero] at q2
  have l2 : w.heap.size < W.heap.size := by rw [hW]; simp
  have HBW := Lib.hid hbW
  have HTP := Lib.hid (tpairs_any M a n c bs W (hF.below hbW) hbl hnc hc)
  have HTG := Lib.hid (fun (at_ S U : Nat) (za zs zu : Int) (hza : za = (at_ : Nat)) (hzs : zs = (S : Nat)) (hzu : zu = (U : Nat)) (hS : S = 2 ∨ S = 4) (hU : U ≤ 4) (hat : at_ ≤ 8) (V : World) (hV : Below W.heap.size W V) => tgrid_any M a n c bs glyphs at_ S U _ za zs zu rfl hza hzs hzu V ((hF.below hbW).below hV) hbl hnc hc hg1 hg2 hS hU hat)
  clear z2 hbW hF hbl
  have hwW := HBW.out.size
  by_cases k0 : kind = 0
  · subst k0
    go_enter Try.func73, Try.ntmps73
    go_wp2_with fail
    rw [← hW]
    clear hW
    refine HTP.out.mono ?_
    rintro e w1 ⟨(⟨hok, rfl⟩ | ⟨hno, rfl⟩), hb1⟩
    · have HB1 := Lib.hid (HBW.out.trans (hb1.mono hwW))
      have HOK := Lib.hid hok
      clear hb1 hok
      go_wp2_with fail
      go_ret
      have hz1 := HB1.out.size
      exact ⟨.inl ⟨[], [], w1.heap.size, .inl ⟨rfl, HOK.out, rfl, rfl⟩, rfl, .inl ⟨rfl, a, n, c, (heap_push _ _ _).trans (if_pos rfl), HL.out, hnc, hc, HFF.out.below (HB1.out.trans ((balloc (brefl w1) _).mono hz1))⟩, hz1⟩, HB1.out.trans ((balloc (brefl w1) _).mono hz1)⟩
    · have HB1 := Lib.hid (HBW.out.trans (hb1.mono hwW))
      have HNO := Lib.hid hno
      clear hb1 hno
      go_wp2_with fail
      exact ⟨rfl, .inr ⟨fun r1 r2 h => by
        rcases h with ⟨_, h, _⟩ | ⟨h, _⟩ | ⟨h, _⟩
        · exact HNO.out h
        · omega
        · omega, rfl⟩, HB1.out⟩
  have t0 : (kind == 0) = false := beq_eq_false_iff_ne.2 k0
  by_cases k2 : kind = 2
  · subst k2
    go_enter Try.func73, Try.ntmps73
    go_wp2_with fail
    rw [← hW]
    clear hW
    refine (HTG.out 4 2 1 4 2 1 rfl rfl rfl (.inl rfl) (by decide) (by decide) W (brefl W)).mono ?_
    rintro e w1 ⟨(⟨r1, r2, gg, hok, rfl, hg⟩ | ⟨hno, rfl⟩), hb1⟩
    · have HB1 := Lib.hid (HBW.out.trans (hb1.mono hwW))
      have HOK := Lib.hid hok
      have HG := Lib.hid hg
      clear hb1 hok hg
      go_wp2_with fail
      go_ret
      have hz1 := HB1.out.size
      exact ⟨.inl ⟨r1, r2, w1.heap.size, .inr (.inl ⟨rfl, HOK.out⟩), rfl, .inr ⟨gg, _, 4, 2, 1, .inl ⟨rfl, rfl, rfl, rfl⟩, (heap_push _ _ _).trans (if_pos rfl), (HG.out.below (balloc (brefl w1) _)).mono (fun _ _ h => h) hwW⟩, hz1⟩, HB1.out.trans ((balloc (brefl w1) _).mono hz1)⟩
    · have HB1 := Lib.hid (HBW.out.trans (hb1.mono hwW))
      have HNO := Lib.hid hno
      clear hb1 hno
      go_wp2_with fail
      exact ⟨rfl, .inr ⟨fun r1 r2 h => by
        rcases h with ⟨h, _⟩ | ⟨_, h⟩ | ⟨h, _⟩
        · omega
        · exact HNO.out r1 r2 h
        · omega, rfl⟩, HB1.out⟩
  have t2 : (kind == 2) = false := beq_eq_false_iff_ne.2 k2
  by_cases k6 : kind = 6
  · subst k6
    by_cases hu : 4 ≤ n
    case neg =>
      have HNO := Lib.hid (show ∀ r1 r2, ¬ PrOk bs 6 glyphs r1 r2 from fun r1 r2 h => by
        rcases h with ⟨h, _⟩ | ⟨h, _⟩ | ⟨_, h⟩
        · omega
        · omega
        · have := h.len; have := HL.out; omega)
      have HB1 := Lib.hid (u32_bad a n c 0 W (by omega) hnc hc)
      go_enter Try.func73, Try.ntmps73
      go_wp2_with fail
      rw [← hW]
      clear hW
      refine HB1.out.mono ?_
      rintro e w1 ⟨rfl, hb1⟩
      have HB1 := Lib.hid (HBW.out.trans (hb1.mono hwW))
      clear hb1
      go_wp2_with fail
      exact ⟨rfl, .inr ⟨HNO.out, rfl⟩, HB1.out⟩
    have HU := Lib.hid (u32_z a n c 0 0 rfl bs W (HFF.out.has.below HBW.out) HL.out hu hnc hc)
    have hN4 := num4_lt bs 0
    have hand := and_one (num bs 0 4) hN4
    obtain ⟨F, hF⟩ : ∃ F, F = num bs 0 4 := ⟨_, rfl⟩
    rw [← hF] at HU hand
    have HSZ := Lib.hid (show sizI bs = if F % 2 = 1 then 4 else 2 by rw [hF]; rfl)
    clear hF hN4
    by_cases hodd : F % 2 = 1
    · have hs := Lib.hid (show sizI bs = 4 by rw [HSZ.out, if_pos hodd])
      rw [hodd] at hand
      go_enter Try.func73, Try.ntmps73
      go_wp2_with fail
      rw [← hW]
      clear hW
      refine HU.out.mono ?_
      rintro e w0 ⟨rfl, hb0⟩
      have hz0 := hb0.size
      have q0 := (hb0.cell (p := ⟨w.heap.size, 0, none⟩) l2).trans q2
      have l0 : w.heap.size < w0.heap.size := by omega
      have HB0 := Lib.hid hb0
      clear hb0 HU
      go_wp2_with fail
      refine (HTG.out 8 4 4 8 4 4 rfl rfl rfl (.inr rfl) (by decide) (by decide) w0 HB0.out).mono ?_
      rintro e w1 ⟨(⟨r1, r2, gg, hok, rfl, hg⟩ | ⟨hno, rfl⟩), hb1⟩
      · have HB1 := Lib.hid (HBW.out.trans ((HB0.out.trans (hb1.mono hz0)).mono hwW))
        have HOK := Lib.hid hok
        have HG := Lib.hid hg
        clear hb1 hok hg
        go_wp2_with fail
        go_ret
        have hz1 := HB1.out.size
        exact ⟨.inl ⟨r1, r2, w1.heap.size, .inr (.inr ⟨rfl, by rw [hs.out]; exact HOK.out⟩), rfl, .inr ⟨gg, _, 8, 4, 4, .inr ⟨rfl, rfl, hs.out.symm, hs.out.symm⟩, (heap_push _ _ _).trans (if_pos rfl), (HG.out.below (balloc (brefl w1) _)).mono (fun _ _ h => h) (by omega)⟩, hz1⟩, HB1.out.trans ((balloc (brefl w1) _).mono hz1)⟩
      · have HB1 := Lib.hid (HBW.out.trans ((HB0.out.trans (hb1.mono hz0)).mono hwW))
        have HNO := Lib.hid hno
        clear hb1 hno
        go_wp2_with fail
        exact ⟨rfl, .inr ⟨fun r1 r2 h => by
          rcases h with ⟨h, _⟩ | ⟨h, _⟩ | ⟨_, h⟩
          · omega
          · omega
          · rw [hs.out] at h; exact HNO.out r1 r2 h, rfl⟩, HB1.out⟩
    · have hs := Lib.hid (show sizI bs = 2 by rw [HSZ.out, if_neg hodd])
      rw [show F % 2 = 0 by omega] at hand
      go_enter Try.func73, Try.ntmps73
      go_wp2_with fail
      rw [← hW]
      clear hW
      refine HU.out.mono ?_
      rintro e w0 ⟨rfl, hb0⟩
      have hz0 := hb0.size
      have q0 := (hb0.cell (p := ⟨w.heap.size, 0, none⟩) l2).trans q2
      have l0 : w.heap.size < w0.heap.size := by omega
      have HB0 := Lib.hid hb0
      clear hb0 HU
      go_wp2_with fail
      refine (HTG.out 8 2 2 8 2 2 rfl rfl rfl (.inl rfl) (by decide) (by decide) w0 HB0.out).mono ?_
      rintro e w1 ⟨(⟨r1, r2, gg, hok, rfl, hg⟩ | ⟨hno, rfl⟩), hb1⟩
      · have HB1 := Lib.hid (HBW.out.trans ((HB0.out.trans (hb1.mono hz0)).mono hwW))
        have HOK := Lib.hid hok
        have HG := Lib.hid hg
        clear hb1 hok hg
        go_wp2_with fail
        go_ret
        have hz1 := HB1.out.size
        exact ⟨.inl ⟨r1, r2, w1.heap.size, .inr (.inr ⟨rfl, by rw [hs.out]; exact HOK.out⟩), rfl, .inr ⟨gg, _, 8, 2, 2, .inr ⟨rfl, rfl, hs.out.symm, hs.out.symm⟩, (heap_push _ _ _).trans (if_pos rfl), (HG.out.below (balloc (brefl w1) _)).mono (fun _ _ h => h) (by omega)⟩, hz1⟩, HB1.out.trans ((balloc (brefl w1) _).mono hz1)⟩
      · have HB1 := Lib.hid (HBW.out.trans ((HB0.out.trans (hb1.mono hz0)).mono hwW))
        have HNO := Lib.hid hno
        clear hb1 hno
        go_wp2_with fail
        exact ⟨rfl, .inr ⟨fun r1 r2 h => by
          rcases h with ⟨h, _⟩ | ⟨h, _⟩ | ⟨_, h⟩
          · omega
          · omega
          · rw [hs.out] at h; exact HNO.out r1 r2 h, rfl⟩, HB1.out⟩
  have t6 : (kind == 6) = false := beq_eq_false_iff_ne.2 k6
  have HFL := Lib.hid (fun U => fail_any U)
  go_enter Try.func73, Try.ntmps73
  go_wp2_with fail
  rw [← hW]
  clear hW
  refine (HFL.out W).mono ?_
  rintro e w1 ⟨rfl, hb1⟩
  go_wp2_with fail
  exact ⟨rfl, .inr ⟨fun r1 r2 h => by
    rcases h with ⟨h, _⟩ | ⟨h, _⟩ | ⟨h, _⟩
    · exact k0 h
    · exact k2 h
    · exact k6 h, rfl⟩, by first | exact HBW.out.trans (hb1.mono hwW) | (subst hb1; exact HBW.out)⟩
end Go.Proofs.Ytaladlaffglkeaa
end
section

/- pair.Read and Get: a subtable of distances that bytes begin with, upon bytes of its own. Conditions: as many bytes as the slice says, no more than a hundred million. -/
namespace Go.Proofs.Ytaladlaffglkeaa
open Go.RowKit Go.Lib

theorem info_bytesP : (Try.prog.info? 5).map (fun i => (i.zero, i.size, i.bytes)) = some (some (.int .u8 0), 1, 1) := by kernel_rfl
theorem nil_noneP (n c : Nat) (w : World) : (binOp .eql 22 (.slice none n c) (.slice none 0 0)).run Try.prog w = .ok (.bool true) w := by kernel_rfl
theorem nil_someP (p : Addr) (n c : Nat) (w : World) : (binOp .eql 22 (.slice (some p) n c) (.slice none 0 0)).run Try.prog w = .ok (.bool false) w := by kernel_rfl
set_option maxRecDepth 100000 in
set_option maxHeartbeats 1600000 in
theorem pbclone_any (a : Option Addr) (n c : Nat) (bs : List UInt8) (w : World) (h : Has w a (bytesV bs)) (hl : bs.length = n) (hsz : n ≤ 100000000) :
    Calls Try.prog 49 #[.slice a n c] w fun e w' => ∃ a' c', e = .returned (.slice a' n c') ∧ w'.ownsRow w.heap.size 5 1 (.slice a' n c') n (bytesV bs) ∧ n ≤ c' ∧ c' ≤ maxLen ∧ Below w.heap.size w w' := by
  have hAC := allocC
  have hAF := allocF
  have hN1 := nil_noneP
  have hN2 := nil_someP
  have HH := Lib.hid h
  have HL := Lib.hid hl
  cases a with
  | none =>
    obtain rfl : bs = [] := by
      cases bs with
      | nil => rfl
      | cons x bs =>
        obtain ⟨p, hp, _⟩ := h 0 _ rfl
        cases hp
    obtain rfl : n = 0 := by rw [← hl]; rfl
    clear h hl
    go_enter Try.func49, Try.ntmps49
    go_wp2_with fail
    go_ret
    exact ⟨none, 0, rfl, World.ownsRow_nil _ _ _ _, Nat.le_refl _, Nat.zero_le _, brefl _⟩
  | some p =>
    clear h hl
    go_enter Try.func49, Try.ntmps49
    go_wp2_with (at_builtin; refine wpApp rfl _ _ 22 rfl w.heap.size 5 (.int .u8 0) 1 1 Try.underlying22 info_bytesP rfl (by decide) _ 0 [] rfl (World.ownsRow_lit w #[] 0 (Nat.le_refl _) (by decide) rfl) (some p) n c (bytesV bs) rfl (by rw [bytesV_length, HL.out, Nat.mul_one]) (HH.out.below (balloc (brefl _) _)) (fun h => by cases h) (by intro u hu; simp only [bytesV, List.mem_map] at hu; obtain ⟨z, _, rfl⟩ := hu; rfl) (by unfold maxLen; omega) (by omega) (by simp) ?_; intro a' c' w' h1 h2 h3 h4 h5 h6; have H1 := Lib.hid h1; have H5 := Lib.hid h5; rw [Nat.zero_add] at h2; clear h1 h4 h5 h6)
    go_ret
    refine ⟨a', c', by first | rfl | (rw [Nat.zero_add]), ?_, h2, h3, ?_⟩
    · have := H1.out
      first | exact this | (rw [Nat.zero_add] at this; exact this)
    · exact (balloc (brefl w) _).trans H5.out
/-- Where stores leave bytes of the call's own. -/
def spR (B : Nat) (k t : Nat) : Prop := t ≠ 5 ∨ k < B
theorem FarH.of_owns {B n c : Nat} {a : Option Addr} {bs : List UInt8} {w : World} (h : w.ownsRow B 5 1 (.slice a n c) n (bytesV bs)) : FarH (spR B) a bs w :=
  ⟨has_of_owns h, fun h0 p hp k cs t fz hk hM e => by
    rcases h.2 with ⟨_, hn⟩ | ⟨g, cap, cur, hv, hg, hh, _⟩
    · have := h.1; rw [bytesV_length, hn] at this; omega
    · injection hv with e1 e2 e3
      rw [hp] at e1
      cases e1
      subst e
      rw [hh] at hk
      injection hk with hk
      injection hk with _ h3 _
      rcases hM with hM | hM
      · exact hM h3.symm
      · exact absurd hM (Nat.not_lt.2 hg)⟩
theorem FarH.setT {M : Nat → Nat → Prop} {g3 o : Nat} {a : Option Addr} {bs : List UInt8} {w : World} {cs : Array Value} {t : Nat} {fz : Nat × Nat} (h : FarH M a bs w) (hw : w.heap[g3]? = some (.cells cs t fz)) (ht : M g3 t) (v : Value) : FarH M a bs (w.setCell ⟨g3, o, none⟩ v) := by
  have hne : 0 < bs.length → ∀ p, a = some p → p.block ≠ g3 := fun h0 p hp e => h.far h0 p hp g3 cs t fz hw ht e.symm
  refine ⟨fun j u hu => ?_, fun h0 p hp k cs' t' fz' hk hM e => ?_⟩
  · have h0 : 0 < bs.length := by
      have := (List.getElem?_eq_some_iff.1 hu).1
      rw [bytesV_length] at this
      omega
    obtain ⟨p, hp, hc⟩ := h.has j u hu
    refine ⟨p, hp, ?_⟩
    rw [World.cell?_of_block (w := w) (by rw [add_block]; exact set_heap_other _ (hne h0 p hp))]
    exact hc
  · subst e
    rw [set_heap_other _ (hne h0 p hp)] at hk
    exact h.far h0 p hp _ cs' t' fz' hk hM rfl
theorem heap_setT {w : World} {g g3 o : Nat} {cs cs3 : Array Value} {t t3 : Nat} {fz fz3 : Nat × Nat} (h : w.heap[g]? = some (.cells cs t fz)) (hw : w.heap[g3]? = some (.cells cs3 t3 fz3)) (ht : t3 ≠ t) (v : Value) : (w.setCell ⟨g3, o, none⟩ v).heap[g]? = some (.cells cs t fz) := by
  refine (set_heap_other _ ?_).trans h
  rintro rfl
  rw [h] at hw
  injection hw with hw
  injection hw with _ h4 _
  exact ht h4.symm
theorem PrIs.setT {M : Nat → Nat → Prop} {B gx g3 o : Nat} {bs : List UInt8} {kind : Int} {r1 r2 : List RP} {w : World} {cs : Array Value} {t : Nat} {fz : Nat × Nat} (h : PrIs M B gx bs kind r1 r2 w) (hw : w.heap[g3]? = some (.cells cs t fz)) (t1 : t ≠ 218) (t2 : t ≠ 156) (t3 : t ≠ 216) (t4 : t ≠ 168) (t5 : t ≠ 165) (ht : M g3 t) (v : Value) : PrIs M B gx bs kind r1 r2 (w.setCell ⟨g3, o, none⟩ v) := by
  rcases h with ⟨h0, a, n, c, h1, h2, h3, h4, h5⟩ | ⟨gg, v', at_, S, U, h0, h1, h2⟩
  · exact .inl ⟨h0, a, n, c, heap_setT h1 hw t5 v, h2, h3, h4, h5.setT hw ht v⟩
  · obtain ⟨g1, g2, f1, f2, a, n, c, k1, k2, k3, k4, k5, k6, k7⟩ := h2.is
    exact .inr ⟨gg, v', at_, S, U, h0, heap_setT h1 hw t5 v, ⟨g1, g2, f1, f2, a, n, c, heap_setT k1 hw t4 v, k2.setOther hw t1 t2 t3 v, k3.setOther hw t1 t2 t3 v, k4, k5, k6, k7.setT hw ht v⟩⟩
def PRead1R (M : Nat → Nat → Prop) (B : Nat) (w : World) (g3 : Nat) (bs : List UInt8) (kind : Int) (glyphs : Nat) (ok : Bool) (w' : World) : Prop :=
  (ok = true ∧ ∃ r1 r2 g, PrOk bs kind glyphs r1 r2 ∧ w'.heap[g3]? = some (.cells #[.pointer (some ⟨g, 0, none⟩)] 61 (0, 0)) ∧ PrIs M w.heap.size g bs kind r1 r2 w' ∧ Below B w w' ∧ w.heap.size ≤ w'.heap.size) ∨
  (ok = false ∧ (∀ r1 r2, ¬ PrOk bs kind glyphs r1 r2) ∧ Below w.heap.size w w')
theorem enter_pread1 (args : Array Value) (w : World) : (callFunc 72 args).run Try.prog w = .ok (.enter 72 args) w := by kernel_rfl
set_option maxRecDepth 100000 in
set_option maxHeartbeats 1600000 in
theorem pread1_any (M : Nat → Nat → Prop) (B : Nat) (a : Option Addr) (n c : Nat) (bs : List UInt8) (kind : Int) (glyphs : Nat) (g0 g1 g2 g3 : Nat) (x : Value) (w : World) (h : FarH M a bs w) (hl : bs.length = n) (hn : n ≤ c) (hc : c ≤ maxLen) (hg1 : 1 ≤ glyphs) (hg2 : glyphs ≤ 65535) (hB : B ≤ g3) (hM : M g3 61)
    (c0 : w.cell? ⟨g0, 0, none⟩ = some (.int .i64 kind)) (c1 : w.cell? ⟨g1, 0, none⟩ = some (.slice a n c)) (c2 : w.cell? ⟨g2, 0, none⟩ = some (.int .i64 (glyphs : Nat)))
    (c3 : w.heap[g3]? = some (.cells #[x] 61 (0, 0))) :
    Calls Try.prog 72 #[.pointer (some ⟨g0, 0, none⟩), .pointer (some ⟨g1, 0, none⟩), .pointer (some ⟨g2, 0, none⟩), .pointer (some ⟨g3, 0, none⟩)] w
      fun e w' => (e = .returned (.tuple #[]) ∧ PRead1R M B w g3 bs kind glyphs true w') ∨ (e = .panicked thrown ∧ PRead1R M B w g3 bs kind glyphs false w') := by
  have HH := Lib.hid h
  have HL := Lib.hid hl
  have C3 := Lib.hid c3
  have l0 := cell_lt c0
  have l1 := cell_lt c1
  have l2 := cell_lt c2
  have l3 := (Array.getElem?_eq_some_iff.1 c3).1
  simp only at l0 l1 l2
  have HT := Lib.hid (fun W hw => ptake_any M a n c bs kind glyphs (glyphs : Nat) rfl W hw hl hn hc hg1 hg2)
  clear h hl c3
  go_enter Try.func72, Try.ntmps72
  go_wp2_with fail
  refine (HT.out w HH.out).mono ?_
  rintro e wb ⟨(⟨r1, r2, g, hok, rfl, hown, _⟩ | ⟨hno, rfl⟩), hbb⟩
  · have hbz := hbb.size
    have HOW := Lib.hid hown
    have HOK := Lib.hid hok
    have c4b := (hbb.block g3 l3).trans C3.out
    have q4 := cell_of_heap c4b 0
    have f4 := froz_of_heap c4b 0
    have l4 := (Array.getElem?_eq_some_iff.1 c4b).1
    have HC4 := Lib.hid c4b
    have HBB := Lib.hid hbb
    clear hown hbb c4b hok
    go_wp2_with fail
    go_end0
    refine .inl ⟨rfl, .inl ⟨rfl, r1, r2, g, HOK.out, set_heap_at _ HC4.out, ?_, (HBB.out.mono (Nat.le_of_lt (by omega))).setCell (p := ⟨g3, 0, none⟩) hB _, by have := HBB.out.size; simpa using this⟩⟩
    exact HOW.out.setT HC4.out (by decide) (by decide) (by decide) (by decide) (by decide) hM (.pointer (some ⟨g, 0, none⟩))
  · have HNO := Lib.hid hno
    have HBB := Lib.hid hbb
    clear hbb hno
    go_wp2_with fail
    exact ⟨rfl, .inr ⟨rfl, .inr ⟨rfl, HNO.out, HBB.out⟩⟩⟩
def badP (kind zg : Int) : Prop := zg < 1 ∨ 65535 < zg ∨ (kind ≠ 0 ∧ kind ≠ 2 ∧ kind ≠ 6)
def PRdIs (bs : List UInt8) (kind zg : Int) (w : World) (e : Ending) (w' : World) : Prop :=
  ((badP kind zg ∧ e = .returned (.tuple #[.pointer none, .int .i64 1])) ∨
   (¬ badP kind zg ∧ (∀ r1 r2, ¬ PrOk bs kind zg.toNat r1 r2) ∧ e = .returned (.tuple #[.pointer none, .int .i64 2])) ∨
   (¬ badP kind zg ∧ ∃ r1 r2 g, PrOk bs kind zg.toNat r1 r2 ∧ e = .returned (.tuple #[.pointer (some ⟨g, 0, none⟩), .int .i64 0]) ∧ PrIs (spR w.heap.size) w.heap.size g bs kind r1 r2 w')) ∧ Below w.heap.size w w'
set_option maxRecDepth 100000 in
set_option maxHeartbeats 3200000 in
theorem pread_any (kind : Int) (a : Option Addr) (n c : Nat) (bs : List UInt8) (zg : Int) (w : World) (h : Has w a (bytesV bs)) (hl : bs.length = n) (hsz : n ≤ 100000000) :
    Calls Try.prog 24 #[.int .i64 kind, .slice a n c, .int .i64 zg] w (PRdIs bs kind zg w) := by
  have HH := Lib.hid h
  have HL := Lib.hid hl
  clear h hl
  have hAC := allocC
  have hAF := allocF
  have hmf : ∀ (fn : Fn) (first cap : Array Value) (w : World), (Instr.makeFunc fn first cap).run Try.prog w = .ok (.func fn first cap) w := fun _ _ _ _ => rfl
  by_cases hb1 : zg < 1
  · have d1 : decide (zg < 1) = true := by simpa using hb1
    go_enter Try.func24, Try.ntmps24
    go_wp2_with fail
    refine bodyPost_ret (v := .tuple #[.pointer none, .int .i64 1]) (by simp [results, Try.results24, go_sem, hAC, hAF]) rfl ?_
    exact ⟨.inl ⟨.inl hb1, rfl⟩, blw⟩
  have d1 : decide (zg < 1) = false := by simpa using hb1
  by_cases hb2 : 65535 < zg
  · have d2 : decide (65535 < zg) = true := by simpa using hb2
    go_enter Try.func24, Try.ntmps24
    go_wp2_with fail
    refine bodyPost_ret (v := .tuple #[.pointer none, .int .i64 1]) (by simp [results, Try.results24, go_sem, hAC, hAF]) rfl ?_
    exact ⟨.inl ⟨.inr (.inl hb2), rfl⟩, blw⟩
  have d2 : decide (65535 < zg) = false := by simpa using hb2
  by_cases hk : kind ≠ 0 ∧ kind ≠ 2 ∧ kind ≠ 6
  · have t0 : (kind != 0) = true := by simp [hk.1]
    have t2 : (kind != 2) = true := by simp [hk.2.1]
    have t6 : (kind != 6) = true := by simp [hk.2.2]
    go_enter Try.func24, Try.ntmps24
    go_wp2_with fail
    refine bodyPost_ret (v := .tuple #[.pointer none, .int .i64 1]) (by simp [results, Try.results24, go_sem, hAC, hAF]) rfl ?_
    exact ⟨.inl ⟨.inr (.inr hk), rfl⟩, blw⟩
  obtain ⟨G, rfl⟩ : ∃ G : Nat, zg = G := ⟨zg.toNat, by omega⟩
  have HNB := Lib.hid (show ¬ badP kind (G : Nat) from by unfold badP; omega)
  have HBC := Lib.hid (fun W (hW : Below w.heap.size w W) => pbclone_any a n c bs W (HH.out.below hW) HL.out hsz)
  have HOF := Lib.hid (fun a c W => of_any a n c W)
  have hkk : kind = 0 ∨ kind = 2 ∨ kind = 6 := by omega
  clear hk
  obtain ⟨A, hA⟩ : ∃ A, A = ((w.alloc (Obj.cells #[.int .i64 kind] 3)).alloc (Obj.cells #[.int .i64 (G : Nat)] 3)).alloc (Obj.cells #[.pointer none] 61) := ⟨_, rfl⟩
  have hbA : Below w.heap.size w A := by rw [hA]; exact balloc (balloc (balloc (brefl _) _) _) _
  have hzA : A.heap.size = w.heap.size + 3 := by rw [hA]; simp
  have z0 : A.heap[w.heap.size]? = some (.cells #[.int .i64 kind] 3 (0, 0)) := by rw [hA, heap_push, if_neg (by simp only [World.size_alloc]; omega), heap_push, if_neg (by simp only [World.size_alloc]; omega), heap_push, if_pos rfl]
  have z1 : A.heap[w.heap.size + 1]? = some (.cells #[.int .i64 (G : Nat)] 3 (0, 0)) := by rw [hA, heap_push, if_neg (by simp only [World.size_alloc]; omega), heap_push, if_pos (by simp)]
  have z3 : A.heap[w.heap.size + 2]? = some (.cells #[.pointer none] 61 (0, 0)) := by rw [hA, heap_push, if_pos (by simp)]
  have hA' : ((w.alloc (Obj.cells #[.int .i64 kind] 3)).alloc (Obj.cells #[.int .i64 (G : Nat)] 3)).alloc (Obj.cells #[.pointer none] 61) = A := hA.symm
  have HAX := Lib.hid hA'
  have HZ0 := Lib.hid z0
  have HZ1 := Lib.hid z1
  have HZ3 := Lib.hid z3
  have HBA0 := Lib.hid hbA
  have HzA := Lib.hid hzA
  have key : ∀ e, e = kind → (e = 0 ∨ e = 2 ∨ e = 6) → Calls Try.prog 24 #[.int .i64 e, .slice a n c, .int .i64 (G : Nat)] w (PRdIs bs kind (G : Nat) w) := by
    intro e he hk3
    subst he
    clear hA hA' z0 z1 z3 hbA hzA hkk
    rcases hk3 with rfl | rfl | rfl
    · go_enter Try.func24, Try.ntmps24
      go_wp2_with (first | (go_at_call 49; (with_reducible refine (HBC.out _ (by exact blw)).mono ?_); rintro e wa ⟨a', c', rfl, hown, hc1, hc2, hba⟩; have HOW := Lib.hid hown; have HBA := Lib.hid hba; have hza := hba.size; clear hown hba) | (go_at_call 39; (with_reducible refine (HOF.out _ _ _).mono ?_); rintro e wb ⟨rfl, hbb⟩; have HBB := Lib.hid hbb; have hzb := hbb.size; clear hbb))
      have hba := HBA.out
      have hbb := HBB.out
      have HOX := HOW.out
      rw [HAX.out] at hba HOX
      have hzA := HzA.out
      have hzw := hba.size
      have hzx := hbb.size
      obtain ⟨W, hW⟩ : ∃ W, W = wb.alloc (Obj.cells #[.slice a' n c'] 93) := ⟨_, rfl⟩
      have hbW : Below wb.heap.size wb W := by rw [hW]; exact balloc (brefl _) _
      have hAW : Below A.heap.size A W := bthen (bthen hba hbb) hbW
      have hb : Below w.heap.size w W := HBA0.out.trans (hAW.mono HBA0.out.size)
      have c1 : W.cell? ⟨wb.heap.size, 0, none⟩ = some (.slice a' n c') := by rw [hW]; exact cell_of_heap (heap_new wb (.slice a' n c') _) 0
      have c0 := cell_of_heap ((hAW.block _ (by omega)).trans HZ0.out) 0
      have c2 := cell_of_heap ((hAW.block _ (by omega)).trans HZ1.out) 0
      have c3 : W.heap[w.heap.size + 2]? = some (.cells #[.pointer none] 61 (0, 0)) := (hAW.block _ (by omega)).trans HZ3.out
      have hBH : FarH (spR w.heap.size) a' bs W := (((FarH.of_owns HOX).mono (fun k t h => by rcases h with h | h; exact .inl h; exact .inr (by omega))).below hbb).below hbW
      have hWz : w.heap.size + 3 ≤ W.heap.size := by have := hAW.size; omega
      rw [← hW]
      have HBH := Lib.hid hBH
      clear hW
      have HB := Lib.hid hb
      have HT := Lib.hid (try_any 72 _ W (PRead1R (spR w.heap.size) w.heap.size W (w.heap.size + 2) bs 0 G) (enter_pread1 _)
        (pread1_any (spR w.heap.size) w.heap.size a' n c' bs 0 G _ _ _ _ _ _ HBH.out HL.out hc1 hc2 (by omega) (by omega) (by omega) (.inl (by decide)) c0 c1 c2 c3))
      have C3 := Lib.hid c3
      clear c0 c1 c2 c3 hb hBH hba hbb hbW hAW hzA HBC HOF HBA HBB HOW HOX HzA
      refine HT.out.mono ?_
      rintro r w2 ⟨ok, rfl, (⟨rfl, r1, r2, g, hok, hG, htb, hb2, hz2⟩ | ⟨rfl, hno, hb2⟩)⟩
      · have HOK := Lib.hid hok
        have HB2 := Lib.hid (HB.out.trans hb2)
        have HTB := Lib.hid ((htb.setT (o := 0) hG (by decide) (by decide) (by decide) (by decide) (by decide) (.inl (by decide)) (.pointer (some ⟨g, 0, none⟩))).mono (fun _ _ h => h) (show w.heap.size ≤ W.heap.size by omega))
        have q10 := cell_of_heap hG 0
        have qf := fun o => froz_of_heap hG o
        simp only [List.getElem?_toArray, List.getElem?_cons_zero] at q10
        have hgl := (Array.getElem?_eq_some_iff.1 hG).1
        clear hok hb2 hG htb HT hz2
        go_wp2_with fail
        refine bodyPost_ret (v := .tuple #[.pointer (some ⟨g, 0, none⟩), .int .i64 0]) (by simp [results, Try.results24, go_sem, q10, qf]) rfl ?_
        exact ⟨.inr (.inr ⟨HNB.out, r1, r2, g, HOK.out, rfl, HTB.out⟩), HB2.out.setCell (p := ⟨w.heap.size + 2, 0, none⟩) (by show w.heap.size ≤ w.heap.size + 2; omega) _⟩
      · have HNO := Lib.hid hno
        have HB2 := Lib.hid (HB.out.trans (hb2.mono HB.out.size))
        have q3 := cell_of_heap ((hb2.block (w.heap.size + 2) (by omega)).trans C3.out) 0
        have qf := fun o => froz_of_heap ((hb2.block (w.heap.size + 2) (by omega)).trans C3.out) o
        simp only [List.getElem?_toArray, List.getElem?_cons_zero] at q3
        have hl3 := cell_lt q3
        simp only at hl3
        clear hno hb2 HT
        go_wp2_with fail
        refine bodyPost_ret (v := .tuple #[.pointer none, .int .i64 2]) (by simp [results, Try.results24, go_sem, q3, qf]) rfl ?_
        exact ⟨.inr (.inl ⟨HNB.out, HNO.out, rfl⟩), HB2.out.setCell (p := ⟨w.heap.size + 2, 0, none⟩) (by show w.heap.size ≤ w.heap.size + 2; omega) _⟩
    · go_enter Try.func24, Try.ntmps24
      go_wp2_with (first | (go_at_call 49; (with_reducible refine (HBC.out _ (by exact blw)).mono ?_); rintro e wa ⟨a', c', rfl, hown, hc1, hc2, hba⟩; have HOW := Lib.hid hown; have HBA := Lib.hid hba; have hza := hba.size; clear hown hba) | (go_at_call 39; (with_reducible refine (HOF.out _ _ _).mono ?_); rintro e wb ⟨rfl, hbb⟩; have HBB := Lib.hid hbb; have hzb := hbb.size; clear hbb))
      have hba := HBA.out
      have hbb := HBB.out
      have HOX := HOW.out
      rw [HAX.out] at hba HOX
      have hzA := HzA.out
      have hzw := hba.size
      have hzx := hbb.size
      obtain ⟨W, hW⟩ : ∃ W, W = wb.alloc (Obj.cells #[.slice a' n c'] 93) := ⟨_, rfl⟩
      have hbW : Below wb.heap.size wb W := by rw [hW]; exact balloc (brefl _) _
      have hAW : Below A.heap.size A W := bthen (bthen hba hbb) hbW
      have hb : Below w.heap.size w W := HBA0.out.trans (hAW.mono HBA0.out.size)
      have c1 : W.cell? ⟨wb.heap.size, 0, none⟩ = some (.slice a' n c') := by rw [hW]; exact cell_of_heap (heap_new wb (.slice a' n c') _) 0
      have c0 := cell_of_heap ((hAW.block _ (by omega)).trans HZ0.out) 0
      have c2 := cell_of_heap ((hAW.block _ (by omega)).trans HZ1.out) 0
      have c3 : W.heap[w.heap.size + 2]? = some (.cells #[.pointer none] 61 (0, 0)) := (hAW.block _ (by omega)).trans HZ3.out
      have hBH : FarH (spR w.heap.size) a' bs W := (((FarH.of_owns HOX).mono (fun k t h => by rcases h with h | h; exact .inl h; exact .inr (by omega))).below hbb).below hbW
      have hWz : w.heap.size + 3 ≤ W.heap.size := by have := hAW.size; omega
      rw [← hW]
      have HBH := Lib.hid hBH
      clear hW
      have HB := Lib.hid hb
      have HT := Lib.hid (try_any 72 _ W (PRead1R (spR w.heap.size) w.heap.size W (w.heap.size + 2) bs 2 G) (enter_pread1 _)
        (pread1_any (spR w.heap.size) w.heap.size a' n c' bs 2 G _ _ _ _ _ _ HBH.out HL.out hc1 hc2 (by omega) (by omega) (by omega) (.inl (by decide)) c0 c1 c2 c3))
      have C3 := Lib.hid c3
      clear c0 c1 c2 c3 hb hBH hba hbb hbW hAW hzA HBC HOF HBA HBB HOW HOX HzA
      refine HT.out.mono ?_
      rintro r w2 ⟨ok, rfl, (⟨rfl, r1, r2, g, hok, hG, htb, hb2, hz2⟩ | ⟨rfl, hno, hb2⟩)⟩
      · have HOK := Lib.hid hok
        have HB2 := Lib.hid (HB.out.trans hb2)
        have HTB := Lib.hid ((htb.setT (o := 0) hG (by decide) (by decide) (by decide) (by decide) (by decide) (.inl (by decide)) (.pointer (some ⟨g, 0, none⟩))).mono (fun _ _ h => h) (show w.heap.size ≤ W.heap.size by omega))
        have q10 := cell_of_heap hG 0
        have qf := fun o => froz_of_heap hG o
        simp only [List.getElem?_toArray, List.getElem?_cons_zero] at q10
        have hgl := (Array.getElem?_eq_some_iff.1 hG).1
        clear hok hb2 hG htb HT hz2
        go_wp2_with fail
        refine bodyPost_ret (v := .tuple #[.pointer (some ⟨g, 0, none⟩), .int .i64 0]) (by simp [results, Try.results24, go_sem, q10, qf]) rfl ?_
        exact ⟨.inr (.inr ⟨HNB.out, r1, r2, g, HOK.out, rfl, HTB.out⟩), HB2.out.setCell (p := ⟨w.heap.size + 2, 0, none⟩) (by show w.heap.size ≤ w.heap.size + 2; omega) _⟩
      · have HNO := Lib.hid hno
        have HB2 := Lib.hid (HB.out.trans (hb2.mono HB.out.size))
        have q3 := cell_of_heap ((hb2.block (w.heap.size + 2) (by omega)).trans C3.out) 0
        have qf := fun o => froz_of_heap ((hb2.block (w.heap.size + 2) (by omega)).trans C3.out) o
        simp only [List.getElem?_toArray, List.getElem?_cons_zero] at q3
        have hl3 := cell_lt q3
        simp only at hl3
        clear hno hb2 HT
        go_wp2_with fail
        refine bodyPost_ret (v := .tuple #[.pointer none, .int .i64 2]) (by simp [results, Try.results24, go_sem, q3, qf]) rfl ?_
        exact ⟨.inr (.inl ⟨HNB.out, HNO.out, rfl⟩), HB2.out.setCell (p := ⟨w.heap.size + 2, 0, none⟩) (by show w.heap.size ≤ w.heap.size + 2; omega) _⟩
    · go_enter Try.func24, Try.ntmps24
      go_wp2_with (first | (go_at_call 49; (with_reducible refine (HBC.out _ (by exact blw)).mono ?_); rintro e wa ⟨a', c', rfl, hown, hc1, hc2, hba⟩; have HOW := Lib.hid hown; have HBA := Lib.hid hba; have hza := hba.size; clear hown hba) | (go_at_call 39; (with_reducible refine (HOF.out _ _ _).mono ?_); rintro e wb ⟨rfl, hbb⟩; have HBB := Lib.hid hbb; have hzb := hbb.size; clear hbb))
      have hba := HBA.out
      have hbb := HBB.out
      have HOX := HOW.out
      rw [HAX.out] at hba HOX
      have hzA := HzA.out
      have hzw := hba.size
      have hzx := hbb.size
      obtain ⟨W, hW⟩ : ∃ W, W = wb.alloc (Obj.cells #[.slice a' n c'] 93) := ⟨_, rfl⟩
      have hbW : Below wb.heap.size wb W := by rw [hW]; exact balloc (brefl _) _
      have hAW : Below A.heap.size A W := bthen (bthen hba hbb) hbW
      have hb : Below w.heap.size w W := HBA0.out.trans (hAW.mono HBA0.out.size)
      have c1 : W.cell? ⟨wb.heap.size, 0, none⟩ = some (.slice a' n c') := by rw [hW]; exact cell_of_heap (heap_new wb (.slice a' n c') _) 0
      have c0 := cell_of_heap ((hAW.block _ (by omega)).trans HZ0.out) 0
      have c2 := cell_of_heap ((hAW.block _ (by omega)).trans HZ1.out) 0
      have c3 : W.heap[w.heap.size + 2]? = some (.cells #[.pointer none] 61 (0, 0)) := (hAW.block _ (by omega)).trans HZ3.out
      have hBH : FarH (spR w.heap.size) a' bs W := (((FarH.of_owns HOX).mono (fun k t h => by rcases h with h | h; exact .inl h; exact .inr (by omega))).below hbb).below hbW
      have hWz : w.heap.size + 3 ≤ W.heap.size := by have := hAW.size; omega
      rw [← hW]
      have HBH := Lib.hid hBH
      clear hW
      have HB := Lib.hid hb
      have HT := Lib.hid (try_any 72 _ W (PRead1R (spR w.heap.size) w.heap.size W (w.heap.size + 2) bs 6 G) (enter_pread1 _)
        (pread1_any (spR w.heap.size) w.heap.size a' n c' bs 6 G _ _ _ _ _ _ HBH.out HL.out hc1 hc2 (by omega) (by omega) (by omega) (.inl (by decide)) c0 c1 c2 c3))
      have C3 := Lib.hid c3
      clear c0 c1 c2 c3 hb hBH hba hbb hbW hAW hzA HBC HOF HBA HBB HOW HOX HzA
      refine HT.out.mono ?_
      rintro r w2 ⟨ok, rfl, (⟨rfl, r1, r2, g, hok, hG, htb, hb2, hz2⟩ | ⟨rfl, hno, hb2⟩)⟩
      · have HOK := Lib.hid hok
        have HB2 := Lib.hid (HB.out.trans hb2)
        have HTB := Lib.hid ((htb.setT (o := 0) hG (by decide) (by decide) (by decide) (by decide) (by decide) (.inl (by decide)) (.pointer (some ⟨g, 0, none⟩))).mono (fun _ _ h => h) (show w.heap.size ≤ W.heap.size by omega))
        have q10 := cell_of_heap hG 0
        have qf := fun o => froz_of_heap hG o
        simp only [List.getElem?_toArray, List.getElem?_cons_zero] at q10
        have hgl := (Array.getElem?_eq_some_iff.1 hG).1
        clear hok hb2 hG htb HT hz2
        go_wp2_with fail
        refine bodyPost_ret (v := .tuple #[.pointer (some ⟨g, 0, none⟩), .int .i64 0]) (by simp [results, Try.results24, go_sem, q10, qf]) rfl ?_
        exact ⟨.inr (.inr ⟨HNB.out, r1, r2, g, HOK.out, rfl, HTB.out⟩), HB2.out.setCell (p := ⟨w.heap.size + 2, 0, none⟩) (by show w.heap.size ≤ w.heap.size + 2; omega) _⟩
      · have HNO := Lib.hid hno
        have HB2 := Lib.hid (HB.out.trans (hb2.mono HB.out.size))
        have q3 := cell_of_heap ((hb2.block (w.heap.size + 2) (by omega)).trans C3.out) 0
        have qf := fun o => froz_of_heap ((hb2.block (w.heap.size + 2) (by omega)).trans C3.out) o
        simp only [List.getElem?_toArray, List.getElem?_cons_zero] at q3
        have hl3 := cell_lt q3
        simp only at hl3
        clear hno hb2 HT
        go_wp2_with fail
        refine bodyPost_ret (v := .tuple #[.pointer none, .int .i64 2]) (by simp [results, Try.results24, go_sem, q3, qf]) rfl ?_
        exact ⟨.inr (.inl ⟨HNB.out, HNO.out, rfl⟩), HB2.out.setCell (p := ⟨w.heap.size + 2, 0, none⟩) (by show w.heap.size ≤ w.heap.size + 2; omega) _⟩
  exact key kind rfl hkk
set_option maxRecDepth 100000 in
set_option maxHeartbeats 3200000 in
theorem pgrid_any (M : Nat → Nat → Prop) (B gx gg : Nat) (v : Value) (bs : List UInt8) (at_ S U glyphs : Nat) (r1 r2 : List RP) (l r : Int) (w : World) (hx : w.heap[gx]? = some (.cells #[v, .pointer (some ⟨gg, 0, none⟩)] 165 (0, 0))) (hG : GrIs M B gg bs at_ S U r1 r2 w) (hok : GridOk bs at_ S U glyphs r1 r2) (hg2 : glyphs ≤ 65535) (hS : S = 2 ∨ S = 4) (hU : U ≤ 4) (hl : -9223372036854775808 ≤ l ∧ l ≤ 9223372036854775807) (hr : -9223372036854775808 ≤ r ∧ r ≤ 9223372036854775807) :
    Calls Try.prog 26 #[.pointer (some ⟨gx, 0, none⟩), .int .i64 l, .int .i64 r] w fun e w' => e = .returned (.int .i64 (distG bs at_ S U r1 r2 l r)) ∧ Below w.heap.size w w' := by
  have hf1 := hok.lk1.fit hg2 hS
  have hf2 := hok.lk2.fit hg2 hS
  have HGR := Lib.hid hG
  obtain ⟨g1, g2, f1, f2, a, n, c, h1, ht1, ht2, _⟩ := hG.is
  have H1 := Lib.hid h1
  have HX := Lib.hid hx
  obtain ⟨x, hx1⟩ : ∃ x, x = (lkR (bs.drop (num bs at_ 4)) r1 l).1 := ⟨_, rfl⟩
  obtain ⟨y, hy1⟩ : ∃ y, y = (lkR (bs.drop (num bs (at_ + 4) 4)) r2 r).1 := ⟨_, rfl⟩
  have hxm := lk_most hf1 l
  have hym := lk_most hf2 r
  have hxl := lkR_le hf1 l
  have hyl := lkR_le hf2 r
  have hfar := hok.far
  rw [← hx1] at hxm hxl
  rw [← hy1] at hym hyl
  have HE1 := Lib.hid (fun (X : World) (hX : Below w.heap.size w X) => show Calls Try.prog 76 #[.pointer (some ⟨g1, 0, none⟩), .int .i64 l] X fun e w' => (∃ b, e = .returned (.tuple #[.int .i64 (x : Nat), .bool b])) ∧ Below X.heap.size X w' from (get_fn _ g1 _ _ _ l X (ht1.below hX) hf1 hl).mono fun e w' h => ⟨⟨_, by rw [hx1]; exact h.1⟩, h.2⟩)
  have HE2 := Lib.hid (fun (X : World) (hX : Below w.heap.size w X) => show Calls Try.prog 76 #[.pointer (some ⟨g2, 0, none⟩), .int .i64 r] X fun e w' => (∃ b, e = .returned (.tuple #[.int .i64 (y : Nat), .bool b])) ∧ Below X.heap.size X w' from (get_fn _ g2 _ _ _ r X (ht2.below hX) hf2 hr).mono fun e w' h => ⟨⟨_, by rw [hy1]; exact h.1⟩, h.2⟩)
  have hin : U * (x + y) + S ≤ bs.length - num bs (at_ + 8) 4 := by
    have := Nat.mul_le_mul_left U (show x + y ≤ mostR (bs.drop (num bs at_ 4)) r1 + mostR (bs.drop (num bs (at_ + 4) 4)) r2 by omega)
    omega
  have HD := Lib.hid (fun (X : World) (hX : Below w.heap.size w X) => show Calls Try.prog 77 #[.pointer (some ⟨gg, 0, none⟩), .int .i64 (x : Nat), .int .i64 (y : Nat)] X fun e w' => e = .returned (.int .i64 (distG bs at_ S U r1 r2 l r)) ∧ Below X.heap.size X w' from (gdist_any M B gg bs at_ S U r1 r2 x y X (HGR.out.below hX) hS hU (by omega) (by omega)).mono (by
    rintro e w' ⟨(⟨_, k⟩ | ⟨k, _⟩), hb⟩
    · exact ⟨by rw [k, hx1, hy1]; rfl, hb⟩
    · exact absurd hin k))
  have q1 := cell_of_heap hx 1
  have k0 := cell_of_heap h1 0
  have k1 := cell_of_heap h1 1
  simp only [List.getElem?_toArray, List.getElem?_cons_zero, List.getElem?_cons_succ] at q1 k0 k1
  have lx := (Array.getElem?_eq_some_iff.1 hx).1
  have l1 := (Array.getElem?_eq_some_iff.1 h1).1
  have hnil : ∀ W : World, (binOp .eql 163 (.pointer (some ⟨gg, 0, none⟩)) (.pointer none)).run Try.prog W = .ok (.bool false) W := fun W => by kernel_rfl
  clear hx hG hok h1 ht1 ht2 hx1 hy1 hin hfar hf1 hf2
  go_enter Try.func26, Try.ntmps26
  go_wp2_with (first
    | (go_at_call 76; (with_reducible refine (HE1.out _ (by exact blw)).mono ?_); rintro e w1 ⟨⟨b1, rfl⟩, hb1⟩; have HB1 := Lib.hid (show Below w.heap.size w w1 from by exact blw); have q1 := (hb1.cell (p := ⟨gx, 1, none⟩) lx).trans q1; have k1 := (hb1.cell (p := ⟨gg, 1, none⟩) l1).trans k1; have lx1 : gx < w1.heap.size := Nat.lt_of_lt_of_le lx hb1.size; have l11 : gg < w1.heap.size := Nat.lt_of_lt_of_le l1 hb1.size; clear hb1)
    | (go_at_call 76; (with_reducible refine (HE2.out _ HB1.out).mono ?_); rintro e w2 ⟨⟨b2, rfl⟩, hb2⟩; have HB2 := Lib.hid (HB1.out.trans (hb2.mono HB1.out.size)); have q1 := (hb2.cell (p := ⟨gx, 1, none⟩) lx1).trans q1; have lx2 : gx < w2.heap.size := Nat.lt_of_lt_of_le lx1 hb2.size; clear hb2)
    | (go_at_call 77; (with_reducible refine (HD.out _ HB2.out).mono ?_); rintro e w3 ⟨rfl, hb3⟩; have HB3 := Lib.hid (HB2.out.trans (hb3.mono HB2.out.size)); clear hb3))
  go_ret
  exact ⟨rfl, HB3.out⟩
set_option maxRecDepth 100000 in
set_option maxHeartbeats 1600000 in
theorem pget_any (M : Nat → Nat → Prop) (B gx : Nat) (bs : List UInt8) (kind : Int) (glyphs : Nat) (r1 r2 : List RP) (l r : Int) (w : World) (h : PrIs M B gx bs kind r1 r2 w) (hok : PrOk bs kind glyphs r1 r2) (hg2 : glyphs ≤ 65535) (hl : -9223372036854775808 ≤ l ∧ l ≤ 9223372036854775807) (hr : -9223372036854775808 ≤ r ∧ r ≤ 9223372036854775807) :
    Calls Try.prog 26 #[.pointer (some ⟨gx, 0, none⟩), .int .i64 l, .int .i64 r] w fun e w' => e = .returned (.int .i64 (distF bs kind r1 r2 l r)) ∧ Below w.heap.size w w' := by
  rcases hok with ⟨rfl, hok, _, _⟩ | ⟨rfl, hok⟩ | ⟨rfl, hok⟩
  · rcases h with ⟨_, a, n, c, h1, h2, h3, h4, h5⟩ | ⟨_, _, _, _, _, h0, _⟩
    · rw [show distF bs 0 r1 r2 l r = distP bs l r from rfl]
      have HO := Lib.hid (ofPair_any M gx a n c bs l r w h1 h2 h3 h4 h5 hok)
      have q1 := cell_of_heap h1 1
      simp only [List.getElem?_toArray, List.getElem?_cons_zero, List.getElem?_cons_succ] at q1
      have lx := (Array.getElem?_eq_some_iff.1 h1).1
      clear h1 h2 h5 hok
      go_enter Try.func26, Try.ntmps26
      go_wp2_with fail
      refine HO.out.mono ?_
      rintro e w1 ⟨rfl, hb1⟩
      have HB := Lib.hid hb1
      go_wp2_with fail
      go_ret
      exact ⟨rfl, HB.out⟩
    · omega
  · rcases h with ⟨h0, _⟩ | ⟨gg, v, at_, S, U, h0, h1, h2⟩
    · omega
    · obtain ⟨_, rfl, rfl, rfl⟩ : (2 : Int) = 2 ∧ at_ = 4 ∧ S = 2 ∧ U = 1 := by rcases h0 with h | h; exact h; omega
      exact pgrid_any M B gx gg v bs 4 2 1 glyphs r1 r2 l r w h1 h2 hok hg2 (.inl rfl) (by decide) hl hr
  · rcases h with ⟨h0, _⟩ | ⟨gg, v, at_, S, U, h0, h1, h2⟩
    · omega
    · obtain ⟨_, rfl, rfl, rfl⟩ : (6 : Int) = 6 ∧ at_ = 8 ∧ S = sizI bs ∧ U = sizI bs := by rcases h0 with h | h; omega; exact h
      exact pgrid_any M B gx gg v bs 8 _ _ glyphs r1 r2 l r w h1 h2 hok hg2 (sizI_or bs) (by rcases sizI_or bs with h | h <;> omega) hl hr
end Go.Proofs.Ytaladlaffglkeaa
end
section

/- The law's Write of pairs: the bytes of a List; what speaks asks. Conditions: no more than a thousand pairs. -/
namespace Go.Proofs.Ytaladlaffglkeaa
open Go.RowKit Go.Lib

/-- Two glyphs and their distance. -/
abbrev PrT := Nat × Nat × Int
def PrT.ok (p : PrT) : Prop := p.1 ≤ 65535 ∧ p.2.1 ≤ 65535 ∧ -32768 ≤ p.2.2 ∧ p.2.2 ≤ 32767
def pr1 (p : PrT) : List Value := [.int .u16 (p.1 : Nat), .int .u16 (p.2.1 : Nat), .int .i16 p.2.2]
def prV (l : List PrT) : List Value := l.flatMap pr1
theorem prV_length : ∀ l, (prV l).length = l.length * 3
  | [] => rfl
  | p :: l => by rw [prV, List.flatMap_cons, List.length_append, ← prV, prV_length l, List.length_cons]; simp [pr1]; omega
theorem prV_get : ∀ {l : List PrT} {j : Nat} {p : PrT}, l[j]? = some p → ∀ i, i < 3 → (prV l)[j * 3 + i]? = (pr1 p)[i]?
  | [], j, p, h, _, _ => by simp at h
  | x :: l, 0, p, h, i, hi => by
    simp at h
    subst h
    rw [prV, List.flatMap_cons, Nat.zero_mul, Nat.zero_add, List.getElem?_append_left (by simp [pr1]; exact hi)]
  | x :: l, j + 1, p, h, i, hi => by
    rw [prV, List.flatMap_cons, List.getElem?_append_right (by simp [pr1]; omega), show (j + 1) * 3 + i - (pr1 x).length = j * 3 + i by simp [pr1]; omega]
    exact prV_get (by simpa using h) i hi
theorem prV_at {w : World} {a : Option Addr} {l : List PrT} (h : Has w a (prV l)) {k : Nat} (hk : k < l.length) : ∃ g o p, a = some ⟨g, o, none⟩ ∧ g < w.heap.size ∧ l[k]? = some p ∧ w.cell? ⟨g, o + k * 3, none⟩ = some (.int .u16 (p.1 : Nat)) ∧ w.cell? ⟨g, o + k * 3 + 1, none⟩ = some (.int .u16 (p.2.1 : Nat)) ∧ w.cell? ⟨g, o + k * 3 + 2, none⟩ = some (.int .i16 p.2.2) := by
  obtain ⟨g, o, ha, hg, hx⟩ := h.get (by rw [prV_length]; omega)
  have hp := List.getElem?_eq_getElem hk
  refine ⟨g, o, l[k], ha, hg, hp, hx _ _ (prV_get hp 0 (by decide)), ?_, ?_⟩
  · rw [Nat.add_assoc]; exact hx _ _ (prV_get hp 1 (by decide))
  · rw [Nat.add_assoc]; exact hx _ _ (prV_get hp 2 (by decide))
def pr1B (p : PrT) : List UInt8 := beN 2 p.1 ++ beN 2 p.2.1 ++ beN 2 (m16 p.2.2)
def prsB (l : List PrT) : List UInt8 := l.flatMap pr1B
def headQ (n : Nat) : List UInt8 := beN 4 n ++ List.replicate 12 0
def listB (l : List PrT) : List UInt8 := headQ l.length ++ prsB l
theorem pr1B_length (p : PrT) : (pr1B p).length = 6 := by simp [pr1B, beN_length]
theorem prsB_length (l : List PrT) : (prsB l).length = 6 * l.length := by
  induction l with
  | nil => rfl
  | cons p l ih => rw [prsB, List.flatMap_cons, List.length_append, pr1B_length, ← prsB, ih, List.length_cons]; omega
theorem headQ_length (n : Nat) : (headQ n).length = 16 := by simp [headQ, beN_length]
theorem listB_length (l : List PrT) : (listB l).length = 16 + 6 * l.length := by rw [listB, List.length_append, headQ_length, prsB_length]
theorem prsB_snoc {l : List PrT} {j : Nat} {p : PrT} (h : l[j]? = some p) : prsB (l.take (j + 1)) = prsB (l.take j) ++ pr1B p := by
  rw [prsB, List.take_add_one, h, List.flatMap_append]
  simp [prsB]
theorem prsB_drop : ∀ {l : List PrT} {i : Nat} {p : PrT}, l[i]? = some p → ∃ Z, (prsB l).drop (6 * i) = pr1B p ++ Z
  | [], i, p, h => by simp at h
  | q :: l, 0, p, h => by
    simp at h
    subst h
    exact ⟨prsB l, rfl⟩
  | q :: l, i + 1, p, h => by
    obtain ⟨Z, hZ⟩ := prsB_drop (l := l) (by simpa using h)
    refine ⟨Z, ?_⟩
    rw [prsB, List.flatMap_cons, ← prsB, show 6 * (i + 1) = (pr1B q).length + 6 * i by rw [pr1B_length]; omega, ← List.drop_drop, List.drop_left]
    exact hZ
theorem listB_n (l : List PrT) (h : l.length ≤ 65535) : num (listB l) 0 4 = l.length := by
  rw [listB, headQ, List.append_assoc]
  exact numB4 _ _ h
theorem listB_at {l : List PrT} {i : Nat} {p : PrT} (h : l[i]? = some p) (hp : p.ok) : num (listB l) (16 + 6 * i) 2 = p.1 ∧ num (listB l) (18 + 6 * i) 2 = p.2.1 ∧ num (listB l) (20 + 6 * i) 2 = m16 p.2.2 ∧ num (listB l) (16 + 6 * i) 4 = p.1 * 65536 + p.2.1 := by
  obtain ⟨Z, hZ⟩ := prsB_drop h
  have e : ∀ j s, num (listB l) (16 + 6 * i + j) s = num (pr1B p ++ Z) j s := fun j s => by
    rw [← hZ, num_dropN, listB, numR _ _ _ (6 * i + j) _ (by rw [headQ_length]; omega)]
  have h1 : num (listB l) (16 + 6 * i) 2 = p.1 := by
    have := e 0 2
    rw [Nat.add_zero] at this
    rw [this, pr1B, List.append_assoc, List.append_assoc]
    exact numB2 _ _ hp.1
  have h2 : num (listB l) (18 + 6 * i) 2 = p.2.1 := by
    have := e 2 2
    rw [show 16 + 6 * i + 2 = 18 + 6 * i by omega] at this
    rw [this, pr1B, List.append_assoc, List.append_assoc, numR _ _ 2 0 2 (by rw [beN_length])]
    exact numB2 _ _ hp.2.1
  have h3 : num (listB l) (20 + 6 * i) 2 = m16 p.2.2 := by
    have := e 4 2
    rw [show 16 + 6 * i + 4 = 20 + 6 * i by omega] at this
    rw [this, pr1B, List.append_assoc, numR _ _ 4 0 2 (by rw [List.length_append, beN_length, beN_length])]
    exact numB2 _ _ (m16_lt _)
  refine ⟨h1, h2, h3, ?_⟩
  rw [num4_two, h1, show 16 + 6 * i + 2 = 18 + 6 * i by omega, h2]
theorem s16_m16 {x : Int} (h : -32768 ≤ x ∧ x ≤ 32767) : s16 (m16 x) = x := by
  unfold s16 m16
  split <;> omega
theorem u16_of16 {x : Int} (h : -32768 ≤ x ∧ x ≤ 32767) : IntKind.u16.wrap x = (m16 x : Nat) := by
  rw [IntKind.wrap_u16]
  unfold m16
  omega
set_option maxRecDepth 100000 in
set_option maxHeartbeats 6400000 in
theorem write22_any (a : Option Addr) (n c : Nat) (l : List PrT) (w : World) (h : Has w a (prV l)) (hl : l.length = n) (hn : n ≤ 1000) (hok : ∀ p ∈ l, PrT.ok p) :
    Calls Try.prog 71 #[.slice a n c] w fun e w' => ∃ a' c', e = .returned (.slice a' (16 + 6 * n) c') ∧ w'.ownsRow w.heap.size 5 1 (.slice a' (16 + 6 * n) c') (16 + 6 * n) (bytesV (listB l)) ∧ 16 + 6 * n ≤ c' ∧ c' ≤ maxLen ∧ (a' = none → c' = 0) ∧ Below w.heap.size w w' := by
  have hAC := allocC
  have hAF := allocF
  have HH := Lib.hid h
  have HL := Lib.hid hl
  have HOK := Lib.hid hok
  clear h hl hok
  go_enter Try.func71, Try.ntmps71
  go_wp2_with fail
  refine (put_row w.heap.size n 4 (n : Int) 4 rfl rfl [] (.slice none 0 0) w (BRow.nil _ _) (Nat.le_refl _) (by omega) (by decide) (by decide)).mono ?_
  rintro e w1 ⟨s1, rfl, hr1, hb1, _⟩
  obtain ⟨a1, c1, rfl, ho1, _⟩ := hr1
  have HO1 := Lib.hid ho1
  have HB1 := Lib.hid hb1
  have e4 : ([] ++ beN 4 n).length = 4 := by simp [beN_length]
  have e4' : (beN 4 n).length = 4 := by simp [beN_length]
  have hz1 := hb1.size
  clear ho1 hb1
  rw [e4]
  rw [e4] at HO1
  go_wp2_with (at_builtin; refine wpAppZM rfl _ _ 22 3 9 rfl w.heap.size 5 Try.underlying22 Try.underlying3 Try.underlying9 u8_info _ 4 _ rfl HO1.out 12 rfl (by decide) hz1 ?_; intro a2 c2 w2 ho2 k1 k2 k3 hb2; have HR2 := Lib.hid (show BRow w.heap.size (headQ n) (.slice a2 16 c2) w2 from ⟨a2, c2, by rw [headQ_length], by rw [headQ_length]; exact ho2, by rw [headQ_length]; exact k1, k2, k3⟩); have HB2 := Lib.hid (HB1.out.trans hb2); clear ho2 k1 k2 k3 hb2)
  go_loopw [3, 12] (fun v i wr => ∃ j : Nat, j ≤ n ∧ i = .int .i64 (j : Nat) ∧ BRow w.heap.size (headQ n ++ prsB (l.take j)) v wr ∧ Below w.heap.size w wr) (fun _ i _ => n - (Go.RowKit.intOf i).toNat)
  case atStart => exact ⟨0, Nat.zero_le _, rfl, by rw [List.take_zero]; simpa [prsB] using HR2.out, HB2.out⟩
  case round =>
    obtain ⟨j, hj, rfl, hr, hb⟩ := hrel
    rename World => wr
    have HR := Lib.hid hr
    have HB := Lib.hid hb
    have hzr := hb.size
    clear hr hb HR2 HB2
    by_cases hlt : j < n
    · obtain ⟨g, o, p, rfl, hg, hp, c0, c1, c2⟩ := prV_at (HH.out.below HB.out) (k := j) (by rw [HL.out]; exact hlt)
      have hpo := HOK.out p (List.mem_of_getElem? hp)
      have HP := Lib.hid (prsB_snoc hp)
      obtain ⟨p1, p2, p3⟩ := p
      obtain ⟨o1, o2, o3⟩ := hpo
      simp only at c0 c1 c2 o1 o2 o3
      have wu := u16_of16 o3
      have hm := m16_lt p3
      obtain ⟨X, hX⟩ : ∃ X, X = headQ n ++ prsB (l.take j) := ⟨_, rfl⟩
      have hXl : X.length ≤ 10000 := by rw [hX, List.length_append, headQ_length, prsB_length, List.length_take]; omega
      have HX := Lib.hid hX
      rw [← hX] at HR
      clear hX hp
      obtain ⟨U, hU⟩ : ∃ U, U = wr.alloc (Obj.cells #[.int .u16 (p1 : Nat), .int .u16 (p2 : Nat), .int .i16 p3] 160) := ⟨_, rfl⟩
      have hbU : Below wr.heap.size wr U := by rw [hU]; exact balloc (brefl _) _
      have x19 : U.heap[wr.heap.size]? = some (.cells #[.int .u16 (p1 : Nat), .int .u16 (p2 : Nat), .int .i16 p3] 160 (0, 0)) := by rw [hU, heap_push, if_pos rfl]
      have HRU := Lib.hid (HR.out.below hbU)
      have HBU := Lib.hid (HB.out.trans (hbU.mono hzr))
      have hlU := (Array.getElem?_eq_some_iff.1 x19).1
      have hzU := hbU.size
      have HA0 := Lib.hid (fun W (h : BRow w.heap.size X u3 W) hB => put_row w.heap.size p1 2 (p1 : Int) 2 rfl rfl X u3 W h hB (by omega) (by omega) (by decide))
      have HA1 := Lib.hid (fun s W (h : BRow w.heap.size (X ++ beN 2 p1) s W) hB => put_row w.heap.size p2 2 (p2 : Int) 2 rfl rfl _ s W h hB (by omega) (by simp [beN_length]; omega) (by decide))
      have HA2 := Lib.hid (fun s W (h : BRow w.heap.size (X ++ beN 2 p1 ++ beN 2 p2) s W) hB => put_row w.heap.size (m16 p3) 2 (m16 p3 : Nat) 2 rfl rfl _ s W h hB (by omega) (by simp [beN_length]; omega) (by decide))
      have X19 := Lib.hid x19
      go_wp2_with fail
      rw [← hU]
      clear hU hbU c0 c1 c2
      refine wp_region_tree (.step 0 (.step 1 (.step 2 (.step 3 (.step 5 (.step 6 (.step 7 (.step 9 (.step 10 (.step 11 (.step 12 (.step 4 (.step 8 (.step 13 (.step 14 .nil))))))))))))))) (by kernel_rfl) (by kernel_rfl) (by kernel_rfl) (by kernel_rfl) (by intro _ _ d_ _ _ h_; cases d_ <;> first | exact h_ | (dsimp +zetaDelta only at h_ ⊢; exact h_)) (fun w' => ∃ p : KeptW U, w' = p.val) (kept_start _) ?_
      have hK0_ := fun (p : KeptW U) (o : Nat) => p.is.cell x19 (by decide) o
      (refine tree_quiet gtA (by rfl) (by rfl) (fun K_ hK_ => ?_); go_big_quiet_op; refine hK_ _ ?_; clear hK_ K_)
      (refine tree_quiet gtA (by rfl) (by rfl) (fun K_ hK_ => ?_); go_big_quiet_op; refine hK_ _ ?_; clear hK_ K_)
      (refine tree_quiet gtA (by rfl) (by rfl) (fun K_ hK_ => ?_); go_big_quiet_op; refine hK_ _ ?_; clear hK_ K_)
      (refine tree_quiet gtA (by rfl) (by rfl) (fun K_ hK_ => ?_); go_big_quiet_op; refine hK_ _ ?_; clear hK_ K_)
      (refine tree_quiet gtA (by rfl) (by rfl) (fun K_ hK_ => ?_); go_big_quiet_op; refine hK_ _ ?_; clear hK_ K_)
      (refine tree_quiet gtA (by rfl) (by rfl) (fun K_ hK_ => ?_); go_big_quiet_op; refine hK_ _ ?_; clear hK_ K_)
      (refine tree_quiet gtA (by rfl) (by rfl) (fun K_ hK_ => ?_); go_big_quiet_op; refine hK_ _ ?_; clear hK_ K_)
      (refine tree_quiet gtA (by rfl) (by rfl) (fun K_ hK_ => ?_); go_big_quiet_op; refine hK_ _ ?_; clear hK_ K_)
      (refine tree_quiet gtA (by rfl) (by rfl) (fun K_ hK_ => ?_); go_big_quiet_op; refine hK_ _ ?_; clear hK_ K_)
      (refine tree_quiet gtA (by rfl) (by rfl) (fun K_ hK_ => ?_); go_big_quiet_op; refine hK_ _ ?_; clear hK_ K_)
      (refine tree_quiet gtA (by rfl) (by rfl) (fun K_ hK_ => ?_); go_big_quiet_op; refine hK_ _ ?_; clear hK_ K_)
      (refine tree_run gtA (by rfl) (by rfl) (fun K_ hK_ => ?_); have HK_ := Lib.hid hK_; clear hK_; go_wp2_with (first | (go_at_call 70; (with_reducible refine (HA0.out _ (HRU.out.below (by exact blw)) (by simp; omega)).mono ?_); rintro e w5 ⟨s5, rfl, hr5, hb5, hk5⟩; have hz5 := hb5.size; (try simp only [World.size_drew] at hz5)) | (go_at_call 70; (with_reducible refine (HA1.out _ _ hr5 (by omega)).mono ?_); rintro e w6 ⟨s6, rfl, hr6, hb6, hk6⟩; have hz6 := hb6.size) | (go_at_call 70; (with_reducible refine (HA2.out _ _ hr6 (by omega)).mono ?_); rintro e w7 ⟨s7, rfl, hr7, hb7, hk7⟩; have hz7 := hb7.size)); refine HK_.out _ _ (kept_ofA) ?_; clear HK_)
      (refine tree_run gtA (by rfl) (by rfl) (fun K_ hK_ => ?_); have HK_ := Lib.hid hK_; clear hK_; go_wp2_with (first | (go_at_call 70; (with_reducible refine (HA0.out _ (HRU.out.below (by exact blw)) (by simp; omega)).mono ?_); rintro e w5 ⟨s5, rfl, hr5, hb5, hk5⟩; have hz5 := hb5.size; (try simp only [World.size_drew] at hz5)) | (go_at_call 70; (with_reducible refine (HA1.out _ _ hr5 (by omega)).mono ?_); rintro e w6 ⟨s6, rfl, hr6, hb6, hk6⟩; have hz6 := hb6.size) | (go_at_call 70; (with_reducible refine (HA2.out _ _ hr6 (by omega)).mono ?_); rintro e w7 ⟨s7, rfl, hr7, hb7, hk7⟩; have hz7 := hb7.size)); refine HK_.out _ _ (kept_ofA) ?_; clear HK_)
      (refine tree_run gtA (by rfl) (by rfl) (fun K_ hK_ => ?_); have HK_ := Lib.hid hK_; clear hK_; go_wp2_with (first | (go_at_call 70; (with_reducible refine (HA0.out _ (HRU.out.below (by exact blw)) (by simp; omega)).mono ?_); rintro e w5 ⟨s5, rfl, hr5, hb5, hk5⟩; have hz5 := hb5.size; (try simp only [World.size_drew] at hz5)) | (go_at_call 70; (with_reducible refine (HA1.out _ _ hr5 (by omega)).mono ?_); rintro e w6 ⟨s6, rfl, hr6, hb6, hk6⟩; have hz6 := hb6.size) | (go_at_call 70; (with_reducible refine (HA2.out _ _ hr6 (by omega)).mono ?_); rintro e w7 ⟨s7, rfl, hr7, hb7, hk7⟩; have hz7 := hb7.size)); refine HK_.out _ _ (kept_ofA) ?_; clear HK_)
      (refine tree_quiet gtA (by rfl) (by rfl) (fun K_ hK_ => ?_); go_big_quiet_op; refine hK_ _ ?_; clear hK_ K_)
      refine tree_nil ?_
      clear hK0_
      have HB7 := Lib.hid (show Below w.heap.size w w7 from HBU.out.trans (((bdrew1 (brefl U)).mono (by omega)).trans (hb5.trans (hb6.trans hb7))))
      have HR7 := Lib.hid hr7
      clear hr5 hr6 hr7 hb5 hb6 hb7 hk5 hk6 hk7
      go_wp2_with fail
      go_roundw
      case rel => exact ⟨j + 1, hlt, by go_num, by
        have := HR7.out
        rw [HX.out, List.append_assoc, List.append_assoc, List.append_assoc, ← List.append_assoc (beN 2 p1)] at this
        rw [HP.out]
        simpa [pr1B, List.append_assoc] using this, HB7.out⟩
      case measure => simp [Go.RowKit.intOf]; omega
    · obtain rfl : n = j := by omega
      have hl := HL.out
      have hr := HR.out
      rw [List.take_of_length_le (by omega)] at hr
      obtain ⟨a5, c5, rfl, ho5, k1, k2, k3⟩ := hr
      have e : (headQ n ++ prsB l).length = 16 + 6 * n := by rw [List.length_append, headQ_length, prsB_length, hl]
      rw [e] at ho5 k1 ⊢
      have HO := Lib.hid ho5
      clear ho5
      go_wp2_with fail
      go_ret
      exact ⟨a5, c5, rfl, by have := HO.out; rw [listB, hl]; exact this, k1, k2, k3, HB.out⟩
end Go.Proofs.Ytaladlaffglkeaa
end
