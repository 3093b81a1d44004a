/- Joined from: MSt. -/
import Derived.Test.YtaladlaffglkeaaJ01
import Derived.Test.YtaladlaffglkeaaJ04
import Derived.Test.YtaladlaffglkeaaJ06
import Derived.Test.YtaladlaffglkeaaJ08
section

/- state.entry: an entry of a view, its words by how many there are. Conditions: as many bytes as the slice says, as many as an entry has. What a machine is, by its bytes: its classes, where its states and entries stand, how many there are. Conditions: as the lemmas say. A machine in memory while it is filled: its states' rows, its entries. Conditions: as the lemmas say. -/
namespace Go.Proofs.Ytaladlaffglkeaa
open Go.RowKit Go.Lib

theorem set4_new {w0 w1 : World} {x0 x1 x2 x3 v0 v1 v2 v3 : Value} {t : TypeId} (h : Below (w0.alloc (.cells #[x0, x1, x2, x3] t)).heap.size (w0.alloc (.cells #[x0, x1, x2, x3] t)) w1) :
    ((((w1.setCell ⟨w0.heap.size, 0, none⟩ v0).setCell ⟨w0.heap.size, 1, none⟩ v1).setCell ⟨w0.heap.size, 2, none⟩ v2).setCell ⟨w0.heap.size, 3, none⟩ v3).heap[w0.heap.size]? = some (.cells #[v0, v1, v2, v3] t (0, 0)) := by
  have h1 : w1.heap[w0.heap.size]? = some (.cells #[x0, x1, x2, x3] t (0, 0)) := (h.block w0.heap.size (by simp)).trans (by rw [heap_push, if_pos rfl])
  simp [World.setCell, Array.getElem?_modify, h1]
theorem set4_newd {w0 w1 : World} {x0 x1 x2 x3 v0 v1 v2 v3 : Value} {t : TypeId} (h : Below (w0.alloc (.cells #[x0, x1, x2, x3] t)).drew.heap.size (w0.alloc (.cells #[x0, x1, x2, x3] t)).drew w1) :
    ((((w1.setCell ⟨w0.heap.size, 0, none⟩ v0).setCell ⟨w0.heap.size, 1, none⟩ v1).setCell ⟨w0.heap.size, 2, none⟩ v2).setCell ⟨w0.heap.size, 3, none⟩ v3).heap[w0.heap.size]? = some (.cells #[v0, v1, v2, v3] t (0, 0)) :=
  set4_new ((Below.refl _ _).drew.trans h)
set_option maxRecDepth 100000 in
set_option maxHeartbeats 1600000 in
theorem entry0 (a : Option Addr) (n c : Nat) (vb : List UInt8) (z : Int) (hz : z = 0) (w : World) (h : Has w a (bytesV vb)) (hl : vb.length = n) (h4 : 4 ≤ n) (hn : n ≤ c) (hc : c ≤ maxLen) :
    Calls Try.prog 164 #[.agg #[.slice a n c], .int .i64 z] w fun e w' => e = .returned (.agg #[.int .i64 (num vb 0 2 : Nat), .int .i64 (num vb 2 2 : Nat), .int .i64 0, .int .i64 0]) ∧ Below w.heap.size w w' := by
  have hAC := allocC
  have hAF := allocF
  subst hz
  have H0 := Lib.hid (fun W (hW : Below w.heap.size w W) => u16_z a n c 0 0 rfl vb W (h.below hW) hl (by omega) hn hc)
  have H2 := Lib.hid (fun W (hW : Below w.heap.size w W) => u16_z a n c 2 2 rfl vb W (h.below hW) hl (by omega) hn hc)
  clear h hl hn hc h4
  generalize num vb 0 2 = y0 at *
  generalize num vb 2 2 = y2 at *
  go_enter Try.func164, Try.ntmps164
  go_wp2_with fail
  obtain ⟨V, hV⟩ : ∃ V, V = ((w.alloc (Obj.cells #[.slice a n c] 93)).alloc (Obj.cells #[.int .i64 0, .int .i64 0, .int .i64 0, .int .i64 0] 88)) := ⟨_, rfl⟩
  have hb : Below w.heap.size w V := by rw [hV]; exact blw
  have z0 : V.cell? ⟨w.heap.size, 0, none⟩ = some (.slice a n c) := by rw [hV, hAC, if_neg (by simp), hAC, if_pos rfl]; rfl
  have z1 : V.heap[w.heap.size + 1]? = some (.cells #[.int .i64 0, .int .i64 0, .int .i64 0, .int .i64 0] 88 (0, 0)) := by rw [hV, heap_push, if_pos (by simp)]
  rw [← hV]
  clear hV
  have HB := Lib.hid hb
  have Z1 := Lib.hid z1
  have hl0 := cell_lt z0
  have hl1 := (Array.getElem?_eq_some_iff.1 z1).1
  simp only at hl0
  clear hb z1
  apply cutP (R := ∀ (g_ : Nat) (x_ : Nat → Value) (W_ : World), (fun g5 V5 => Below V.heap.size V V5 ∧ V.heap.size ≤ g5 ∧ V5.heap[g5]? = some (.cells #[.int .i64 (y0 : Nat), .int .i64 (y2 : Nat), .int .i64 0, .int .i64 0] 88 (0, 0))) g_ W_ → _)
  · intro hfin_
    refine wp_region_tree (.step 0 (.step 2 (.two 1 (.two 3 (.step 4 (.step 5 (.step 6 .nil))) 5 (.step 3 (.step 4 (.step 6 .nil)))) 5 (.step 1 (.step 3 (.step 4 (.step 6 .nil))))))) (by kernel_rfl) (by kernel_rfl) (by kernel_rfl) (by kernel_rfl) (by intro _ _ d_ _ _ h_; cases d_ <;> first | exact h_ | (dsimp +zetaDelta only at h_ ⊢; exact h_)) (fun w' => ∃ p : Wld V [], w' = p.val) (wld_start _ _) ?_
    have hG_ := @wldC V
    (refine tree_quiet gtA (by rfl) (by rfl) (fun K_ hK_ => ?_); go_big_quiet_op; refine hK_ _ ?_; clear hK_ K_)
    (refine tree_quiet gtA (by rfl) (by rfl) (fun K_ hK_ => ?_); go_big_quiet_op; refine hK_ _ ?_; clear hK_ K_)
    refine tree_two gtA gtA (by rfl) (by rfl) (fun K_ hK_ => ?_) (fun K_ hK_ => ?_)
    · have HK_ := Lib.hid hK_; clear hK_; go_wp2_with (first | (go_at_call 95; (with_reducible refine (H0.out _ (HB.out.trans (Below.mono (w := V) (by exact blw) HB.out.size))).mono ?_); rintro e wa ⟨rfl, hba⟩; have hac := bc hba; have haf := bf hba; have haz := hba.size; try simp only [World.size_alloc, World.size_drew] at haz) | (go_at_call 95; (with_reducible refine (H2.out _ (HB.out.trans (Below.mono (w := V) (by exact blw) HB.out.size))).mono ?_); rintro e wb ⟨rfl, hbb⟩; have hbc := bc hbb; have hbf := bf hbb; have hbz := hbb.size; try simp only [World.size_alloc, World.size_drew] at hbz)); refine HK_.out _ _ (wld_ofA) ?_; clear HK_
      refine tree_two gtA gtA (by rfl) (by rfl) (fun K_ hK_ => ?_) (fun K_ hK_ => ?_)
      · have HK_ := Lib.hid hK_; clear hK_; go_wp2_with (first | (go_at_call 95; (with_reducible refine (H0.out _ (HB.out.trans (Below.mono (w := V) (by exact blw) HB.out.size))).mono ?_); rintro e wa ⟨rfl, hba⟩; have hac := bc hba; have haf := bf hba; have haz := hba.size; try simp only [World.size_alloc, World.size_drew] at haz) | (go_at_call 95; (with_reducible refine (H2.out _ (HB.out.trans (Below.mono (w := V) (by exact blw) HB.out.size))).mono ?_); rintro e wb ⟨rfl, hbb⟩; have hbc := bc hbb; have hbf := bf hbb; have hbz := hbb.size; try simp only [World.size_alloc, World.size_drew] at hbz)); refine HK_.out _ _ (wld_ofA) ?_; clear HK_
        (refine tree_quiet gtA (by rfl) (by rfl) (fun K_ hK_ => ?_); go_big_quiet_op; refine hK_ _ ?_; clear hK_ K_)
        (refine tree_run gtA (by rfl) (by rfl) (fun K_ hK_ => ?_); have HK_ := Lib.hid hK_; clear hK_; go_wp2_with (first | (go_at_call 95; (with_reducible refine (H0.out _ (HB.out.trans (Below.mono (w := V) (by exact blw) HB.out.size))).mono ?_); rintro e wa ⟨rfl, hba⟩; have hac := bc hba; have haf := bf hba; have haz := hba.size; try simp only [World.size_alloc, World.size_drew] at haz) | (go_at_call 95; (with_reducible refine (H2.out _ (HB.out.trans (Below.mono (w := V) (by exact blw) HB.out.size))).mono ?_); rintro e wb ⟨rfl, hbb⟩; have hbc := bc hbb; have hbf := bf hbb; have hbz := hbb.size; try simp only [World.size_alloc, World.size_drew] at hbz)); refine HK_.out _ _ (wld_ofA) ?_; clear HK_)
        (refine tree_run gtA (by rfl) (by rfl) (fun K_ hK_ => ?_); have HK_ := Lib.hid hK_; clear hK_; go_wp2_with (first | (go_at_call 95; (with_reducible refine (H0.out _ (HB.out.trans (Below.mono (w := V) (by exact blw) HB.out.size))).mono ?_); rintro e wa ⟨rfl, hba⟩; have hac := bc hba; have haf := bf hba; have haz := hba.size; try simp only [World.size_alloc, World.size_drew] at haz) | (go_at_call 95; (with_reducible refine (H2.out _ (HB.out.trans (Below.mono (w := V) (by exact blw) HB.out.size))).mono ?_); rintro e wb ⟨rfl, hbb⟩; have hbc := bc hbb; have hbf := bf hbb; have hbz := hbb.size; try simp only [World.size_alloc, World.size_drew] at hbz)); refine HK_.out _ _ (wld_ofA) ?_; clear HK_)
        refine tree_nil ?_
        refine leaf_any 5 [] (fun g5 V5 => Below V.heap.size V V5 ∧ V.heap.size ≤ g5 ∧ V5.heap[g5]? = some (.cells #[.int .i64 (y0 : Nat), .int .i64 (y2 : Nat), .int .i64 0, .int .i64 0] 88 (0, 0))) _ (by rfl) (by first | (simp only [blank, List.setIfInBounds_toArray, List.set_cons_succ, List.set_cons_zero]; rfl) | simp only [blank, List.setIfInBounds_toArray, List.set_cons_succ, List.set_cons_zero]) (hfin_ ()) ?_
        (refine ⟨blw, ?_, ?_⟩ <;> first | omega | (simp only [World.size_setCell, World.size_alloc, World.size_drew]; omega) | (with_reducible exact set4_new (by assumption)) | (with_reducible exact set4_new (bthen (by assumption) (by assumption))) | (with_reducible exact set4_newd (by assumption)) | (with_reducible exact set4_newd (bthen (by assumption) (by assumption))) | (rw [heap_push, if_pos rfl]; done))
      · have HK_ := Lib.hid hK_; clear hK_; go_wp2_with (first | (go_at_call 95; (with_reducible refine (H0.out _ (HB.out.trans (Below.mono (w := V) (by exact blw) HB.out.size))).mono ?_); rintro e wa ⟨rfl, hba⟩; have hac := bc hba; have haf := bf hba; have haz := hba.size; try simp only [World.size_alloc, World.size_drew] at haz) | (go_at_call 95; (with_reducible refine (H2.out _ (HB.out.trans (Below.mono (w := V) (by exact blw) HB.out.size))).mono ?_); rintro e wb ⟨rfl, hbb⟩; have hbc := bc hbb; have hbf := bf hbb; have hbz := hbb.size; try simp only [World.size_alloc, World.size_drew] at hbz)); refine HK_.out _ _ (wld_ofA) ?_; clear HK_
        (refine tree_run gtA (by rfl) (by rfl) (fun K_ hK_ => ?_); have HK_ := Lib.hid hK_; clear hK_; go_wp2_with (first | (go_at_call 95; (with_reducible refine (H0.out _ (HB.out.trans (Below.mono (w := V) (by exact blw) HB.out.size))).mono ?_); rintro e wa ⟨rfl, hba⟩; have hac := bc hba; have haf := bf hba; have haz := hba.size; try simp only [World.size_alloc, World.size_drew] at haz) | (go_at_call 95; (with_reducible refine (H2.out _ (HB.out.trans (Below.mono (w := V) (by exact blw) HB.out.size))).mono ?_); rintro e wb ⟨rfl, hbb⟩; have hbc := bc hbb; have hbf := bf hbb; have hbz := hbb.size; try simp only [World.size_alloc, World.size_drew] at hbz)); refine HK_.out _ _ (wld_ofA) ?_; clear HK_)
        (refine tree_quiet gtA (by rfl) (by rfl) (fun K_ hK_ => ?_); go_big_quiet_op; refine hK_ _ ?_; clear hK_ K_)
        (refine tree_run gtA (by rfl) (by rfl) (fun K_ hK_ => ?_); have HK_ := Lib.hid hK_; clear hK_; go_wp2_with (first | (go_at_call 95; (with_reducible refine (H0.out _ (HB.out.trans (Below.mono (w := V) (by exact blw) HB.out.size))).mono ?_); rintro e wa ⟨rfl, hba⟩; have hac := bc hba; have haf := bf hba; have haz := hba.size; try simp only [World.size_alloc, World.size_drew] at haz) | (go_at_call 95; (with_reducible refine (H2.out _ (HB.out.trans (Below.mono (w := V) (by exact blw) HB.out.size))).mono ?_); rintro e wb ⟨rfl, hbb⟩; have hbc := bc hbb; have hbf := bf hbb; have hbz := hbb.size; try simp only [World.size_alloc, World.size_drew] at hbz)); refine HK_.out _ _ (wld_ofA) ?_; clear HK_)
        refine tree_nil ?_
        refine leaf_any 5 [] (fun g5 V5 => Below V.heap.size V V5 ∧ V.heap.size ≤ g5 ∧ V5.heap[g5]? = some (.cells #[.int .i64 (y0 : Nat), .int .i64 (y2 : Nat), .int .i64 0, .int .i64 0] 88 (0, 0))) _ (by rfl) (by first | (simp only [blank, List.setIfInBounds_toArray, List.set_cons_succ, List.set_cons_zero]; rfl) | simp only [blank, List.setIfInBounds_toArray, List.set_cons_succ, List.set_cons_zero]) (hfin_ ()) ?_
        (refine ⟨blw, ?_, ?_⟩ <;> first | omega | (simp only [World.size_setCell, World.size_alloc, World.size_drew]; omega) | (with_reducible exact set4_new (by assumption)) | (with_reducible exact set4_new (bthen (by assumption) (by assumption))) | (with_reducible exact set4_newd (by assumption)) | (with_reducible exact set4_newd (bthen (by assumption) (by assumption))) | (rw [heap_push, if_pos rfl]; done))
    · have HK_ := Lib.hid hK_; clear hK_; go_wp2_with (first | (go_at_call 95; (with_reducible refine (H0.out _ (HB.out.trans (Below.mono (w := V) (by exact blw) HB.out.size))).mono ?_); rintro e wa ⟨rfl, hba⟩; have hac := bc hba; have haf := bf hba; have haz := hba.size; try simp only [World.size_alloc, World.size_drew] at haz) | (go_at_call 95; (with_reducible refine (H2.out _ (HB.out.trans (Below.mono (w := V) (by exact blw) HB.out.size))).mono ?_); rintro e wb ⟨rfl, hbb⟩; have hbc := bc hbb; have hbf := bf hbb; have hbz := hbb.size; try simp only [World.size_alloc, World.size_drew] at hbz)); refine HK_.out _ _ (wld_ofA) ?_; clear HK_
      (refine tree_run gtA (by rfl) (by rfl) (fun K_ hK_ => ?_); have HK_ := Lib.hid hK_; clear hK_; go_wp2_with (first | (go_at_call 95; (with_reducible refine (H0.out _ (HB.out.trans (Below.mono (w := V) (by exact blw) HB.out.size))).mono ?_); rintro e wa ⟨rfl, hba⟩; have hac := bc hba; have haf := bf hba; have haz := hba.size; try simp only [World.size_alloc, World.size_drew] at haz) | (go_at_call 95; (with_reducible refine (H2.out _ (HB.out.trans (Below.mono (w := V) (by exact blw) HB.out.size))).mono ?_); rintro e wb ⟨rfl, hbb⟩; have hbc := bc hbb; have hbf := bf hbb; have hbz := hbb.size; try simp only [World.size_alloc, World.size_drew] at hbz)); refine HK_.out _ _ (wld_ofA) ?_; clear HK_)
      (refine tree_run gtA (by rfl) (by rfl) (fun K_ hK_ => ?_); have HK_ := Lib.hid hK_; clear hK_; go_wp2_with (first | (go_at_call 95; (with_reducible refine (H0.out _ (HB.out.trans (Below.mono (w := V) (by exact blw) HB.out.size))).mono ?_); rintro e wa ⟨rfl, hba⟩; have hac := bc hba; have haf := bf hba; have haz := hba.size; try simp only [World.size_alloc, World.size_drew] at haz) | (go_at_call 95; (with_reducible refine (H2.out _ (HB.out.trans (Below.mono (w := V) (by exact blw) HB.out.size))).mono ?_); rintro e wb ⟨rfl, hbb⟩; have hbc := bc hbb; have hbf := bf hbb; have hbz := hbb.size; try simp only [World.size_alloc, World.size_drew] at hbz)); refine HK_.out _ _ (wld_ofA) ?_; clear HK_)
      (refine tree_quiet gtA (by rfl) (by rfl) (fun K_ hK_ => ?_); go_big_quiet_op; refine hK_ _ ?_; clear hK_ K_)
      (refine tree_run gtA (by rfl) (by rfl) (fun K_ hK_ => ?_); have HK_ := Lib.hid hK_; clear hK_; go_wp2_with (first | (go_at_call 95; (with_reducible refine (H0.out _ (HB.out.trans (Below.mono (w := V) (by exact blw) HB.out.size))).mono ?_); rintro e wa ⟨rfl, hba⟩; have hac := bc hba; have haf := bf hba; have haz := hba.size; try simp only [World.size_alloc, World.size_drew] at haz) | (go_at_call 95; (with_reducible refine (H2.out _ (HB.out.trans (Below.mono (w := V) (by exact blw) HB.out.size))).mono ?_); rintro e wb ⟨rfl, hbb⟩; have hbc := bc hbb; have hbf := bf hbb; have hbz := hbb.size; try simp only [World.size_alloc, World.size_drew] at hbz)); refine HK_.out _ _ (wld_ofA) ?_; clear HK_)
      refine tree_nil ?_
      refine leaf_any 5 [] (fun g5 V5 => Below V.heap.size V V5 ∧ V.heap.size ≤ g5 ∧ V5.heap[g5]? = some (.cells #[.int .i64 (y0 : Nat), .int .i64 (y2 : Nat), .int .i64 0, .int .i64 0] 88 (0, 0))) _ (by rfl) (by first | (simp only [blank, List.setIfInBounds_toArray, List.set_cons_succ, List.set_cons_zero]; rfl) | simp only [blank, List.setIfInBounds_toArray, List.set_cons_succ, List.set_cons_zero]) (hfin_ ()) ?_
      (refine ⟨blw, ?_, ?_⟩ <;> first | omega | (simp only [World.size_setCell, World.size_alloc, World.size_drew]; omega) | (with_reducible exact set4_new (by assumption)) | (with_reducible exact set4_new (bthen (by assumption) (by assumption))) | (with_reducible exact set4_newd (by assumption)) | (with_reducible exact set4_newd (bthen (by assumption) (by assumption))) | (rw [heap_push, if_pos rfl]; done))
  intro g5 x5 V5 ⟨b5, hg5, h5⟩
  simp only [fill, List.setIfInBounds_toArray, List.set_cons_succ, List.set_cons_zero]
  have B5 := Lib.hid (HB.out.trans (b5.mono HB.out.size))
  have H5 := Lib.hid h5
  have Q0 := Lib.hid ((b5.cell (p := ⟨w.heap.size, 0, none⟩) hl0).trans z0)
  have P1 := Lib.hid ((b5.block _ hl1).trans Z1.out)
  have hl5 := (Array.getElem?_eq_some_iff.1 h5).1
  have hg0 : w.heap.size ≠ g5 := by omega
  have hg1 : w.heap.size + 1 ≠ g5 := by omega
  have hgw : w.heap.size ≤ g5 := by omega
  clear b5 h5 z0 HB Z1
  have q5 := fun o => cell_of_heap H5.out o
  have q1 := fun o => cell_of_heap P1.out o
  have qf := fun o => froz_of_heap P1.out o
  have hl1' := (Array.getElem?_eq_some_iff.1 P1.out).1
  (try simp only [World.size_setCell] at hl1')
  go_wp2_with fail
  refine bodyPost_ret (v := .agg #[.int .i64 (y0 : Nat), .int .i64 (y2 : Nat), .int .i64 0, .int .i64 0]) (by simp [results, Try.results164, go_sem, q5, q1, qf]) rfl ⟨rfl, ?_⟩
  exact bset (bset (bset (bset B5.out (by simp) _) (by simp) _) (by simp) _) (by simp) _

set_option maxRecDepth 100000 in
set_option maxHeartbeats 1600000 in
theorem entry1 (a : Option Addr) (n c : Nat) (vb : List UInt8) (z : Int) (hz : z = 1) (w : World) (h : Has w a (bytesV vb)) (hl : vb.length = n) (h4 : 6 ≤ n) (hn : n ≤ c) (hc : c ≤ maxLen) :
    Calls Try.prog 164 #[.agg #[.slice a n c], .int .i64 z] w fun e w' => e = .returned (.agg #[.int .i64 (num vb 0 2 : Nat), .int .i64 (num vb 2 2 : Nat), .int .i64 (num vb 4 2 : Nat), .int .i64 0]) ∧ Below w.heap.size w w' := by
  have hAC := allocC
  have hAF := allocF
  subst hz
  have H0 := Lib.hid (fun W (hW : Below w.heap.size w W) => u16_z a n c 0 0 rfl vb W (h.below hW) hl (by omega) hn hc)
  have H2 := Lib.hid (fun W (hW : Below w.heap.size w W) => u16_z a n c 2 2 rfl vb W (h.below hW) hl (by omega) hn hc)
  have H4 := Lib.hid (fun W (hW : Below w.heap.size w W) => u16_z a n c 4 4 rfl vb W (h.below hW) hl (by omega) hn hc)
  clear h hl hn hc h4
  generalize num vb 0 2 = y0 at *
  generalize num vb 2 2 = y2 at *
  generalize num vb 4 2 = y4 at *
  go_enter Try.func164, Try.ntmps164
  go_wp2_with fail
  obtain ⟨V, hV⟩ : ∃ V, V = ((w.alloc (Obj.cells #[.slice a n c] 93)).alloc (Obj.cells #[.int .i64 0, .int .i64 0, .int .i64 0, .int .i64 0] 88)) := ⟨_, rfl⟩
  have hb : Below w.heap.size w V := by rw [hV]; exact blw
  have z0 : V.cell? ⟨w.heap.size, 0, none⟩ = some (.slice a n c) := by rw [hV, hAC, if_neg (by simp), hAC, if_pos rfl]; rfl
  have z1 : V.heap[w.heap.size + 1]? = some (.cells #[.int .i64 0, .int .i64 0, .int .i64 0, .int .i64 0] 88 (0, 0)) := by rw [hV, heap_push, if_pos (by simp)]
  rw [← hV]
  clear hV
  have HB := Lib.hid hb
  have Z1 := Lib.hid z1
  have hl0 := cell_lt z0
  have hl1 := (Array.getElem?_eq_some_iff.1 z1).1
  simp only at hl0
  clear hb z1
  apply cutP (R := ∀ (g_ : Nat) (x_ : Nat → Value) (W_ : World), (fun g5 V5 => Below V.heap.size V V5 ∧ V.heap.size ≤ g5 ∧ V5.heap[g5]? = some (.cells #[.int .i64 (y0 : Nat), .int .i64 (y2 : Nat), .int .i64 0, .int .i64 0] 88 (0, 0))) g_ W_ → _)
  · intro hfin_
    refine wp_region_tree (.step 0 (.step 2 (.two 1 (.two 3 (.step 4 (.step 5 (.step 6 .nil))) 5 (.step 3 (.step 4 (.step 6 .nil)))) 5 (.step 1 (.step 3 (.step 4 (.step 6 .nil))))))) (by kernel_rfl) (by kernel_rfl) (by kernel_rfl) (by kernel_rfl) (by intro _ _ d_ _ _ h_; cases d_ <;> first | exact h_ | (dsimp +zetaDelta only at h_ ⊢; exact h_)) (fun w' => ∃ p : Wld V [], w' = p.val) (wld_start _ _) ?_
    have hG_ := @wldC V
    (refine tree_quiet gtA (by rfl) (by rfl) (fun K_ hK_ => ?_); go_big_quiet_op; refine hK_ _ ?_; clear hK_ K_)
    (refine tree_quiet gtA (by rfl) (by rfl) (fun K_ hK_ => ?_); go_big_quiet_op; refine hK_ _ ?_; clear hK_ K_)
    refine tree_two gtA gtA (by rfl) (by rfl) (fun K_ hK_ => ?_) (fun K_ hK_ => ?_)
    · have HK_ := Lib.hid hK_; clear hK_; go_wp2_with (first | (go_at_call 95; (with_reducible refine (H0.out _ (HB.out.trans (Below.mono (w := V) (by exact blw) HB.out.size))).mono ?_); rintro e wa ⟨rfl, hba⟩; have hac := bc hba; have haf := bf hba; have haz := hba.size; try simp only [World.size_alloc, World.size_drew] at haz) | (go_at_call 95; (with_reducible refine (H2.out _ (HB.out.trans (Below.mono (w := V) (by exact blw) HB.out.size))).mono ?_); rintro e wb ⟨rfl, hbb⟩; have hbc := bc hbb; have hbf := bf hbb; have hbz := hbb.size; try simp only [World.size_alloc, World.size_drew] at hbz)); refine HK_.out _ _ (wld_ofA) ?_; clear HK_
      refine tree_two gtA gtA (by rfl) (by rfl) (fun K_ hK_ => ?_) (fun K_ hK_ => ?_)
      · have HK_ := Lib.hid hK_; clear hK_; go_wp2_with (first | (go_at_call 95; (with_reducible refine (H0.out _ (HB.out.trans (Below.mono (w := V) (by exact blw) HB.out.size))).mono ?_); rintro e wa ⟨rfl, hba⟩; have hac := bc hba; have haf := bf hba; have haz := hba.size; try simp only [World.size_alloc, World.size_drew] at haz) | (go_at_call 95; (with_reducible refine (H2.out _ (HB.out.trans (Below.mono (w := V) (by exact blw) HB.out.size))).mono ?_); rintro e wb ⟨rfl, hbb⟩; have hbc := bc hbb; have hbf := bf hbb; have hbz := hbb.size; try simp only [World.size_alloc, World.size_drew] at hbz)); refine HK_.out _ _ (wld_ofA) ?_; clear HK_
        (refine tree_quiet gtA (by rfl) (by rfl) (fun K_ hK_ => ?_); go_big_quiet_op; refine hK_ _ ?_; clear hK_ K_)
        (refine tree_run gtA (by rfl) (by rfl) (fun K_ hK_ => ?_); have HK_ := Lib.hid hK_; clear hK_; go_wp2_with (first | (go_at_call 95; (with_reducible refine (H0.out _ (HB.out.trans (Below.mono (w := V) (by exact blw) HB.out.size))).mono ?_); rintro e wa ⟨rfl, hba⟩; have hac := bc hba; have haf := bf hba; have haz := hba.size; try simp only [World.size_alloc, World.size_drew] at haz) | (go_at_call 95; (with_reducible refine (H2.out _ (HB.out.trans (Below.mono (w := V) (by exact blw) HB.out.size))).mono ?_); rintro e wb ⟨rfl, hbb⟩; have hbc := bc hbb; have hbf := bf hbb; have hbz := hbb.size; try simp only [World.size_alloc, World.size_drew] at hbz)); refine HK_.out _ _ (wld_ofA) ?_; clear HK_)
        (refine tree_run gtA (by rfl) (by rfl) (fun K_ hK_ => ?_); have HK_ := Lib.hid hK_; clear hK_; go_wp2_with (first | (go_at_call 95; (with_reducible refine (H0.out _ (HB.out.trans (Below.mono (w := V) (by exact blw) HB.out.size))).mono ?_); rintro e wa ⟨rfl, hba⟩; have hac := bc hba; have haf := bf hba; have haz := hba.size; try simp only [World.size_alloc, World.size_drew] at haz) | (go_at_call 95; (with_reducible refine (H2.out _ (HB.out.trans (Below.mono (w := V) (by exact blw) HB.out.size))).mono ?_); rintro e wb ⟨rfl, hbb⟩; have hbc := bc hbb; have hbf := bf hbb; have hbz := hbb.size; try simp only [World.size_alloc, World.size_drew] at hbz)); refine HK_.out _ _ (wld_ofA) ?_; clear HK_)
        refine tree_nil ?_
        refine leaf_any 5 [] (fun g5 V5 => Below V.heap.size V V5 ∧ V.heap.size ≤ g5 ∧ V5.heap[g5]? = some (.cells #[.int .i64 (y0 : Nat), .int .i64 (y2 : Nat), .int .i64 0, .int .i64 0] 88 (0, 0))) _ (by rfl) (by first | (simp only [blank, List.setIfInBounds_toArray, List.set_cons_succ, List.set_cons_zero]; rfl) | simp only [blank, List.setIfInBounds_toArray, List.set_cons_succ, List.set_cons_zero]) (hfin_ ()) ?_
        (refine ⟨blw, ?_, ?_⟩ <;> first | omega | (simp only [World.size_setCell, World.size_alloc, World.size_drew]; omega) | (with_reducible exact set4_new (by assumption)) | (with_reducible exact set4_new (bthen (by assumption) (by assumption))) | (with_reducible exact set4_newd (by assumption)) | (with_reducible exact set4_newd (bthen (by assumption) (by assumption))) | (rw [heap_push, if_pos rfl]; done))
      · have HK_ := Lib.hid hK_; clear hK_; go_wp2_with (first | (go_at_call 95; (with_reducible refine (H0.out _ (HB.out.trans (Below.mono (w := V) (by exact blw) HB.out.size))).mono ?_); rintro e wa ⟨rfl, hba⟩; have hac := bc hba; have haf := bf hba; have haz := hba.size; try simp only [World.size_alloc, World.size_drew] at haz) | (go_at_call 95; (with_reducible refine (H2.out _ (HB.out.trans (Below.mono (w := V) (by exact blw) HB.out.size))).mono ?_); rintro e wb ⟨rfl, hbb⟩; have hbc := bc hbb; have hbf := bf hbb; have hbz := hbb.size; try simp only [World.size_alloc, World.size_drew] at hbz)); refine HK_.out _ _ (wld_ofA) ?_; clear HK_
        (refine tree_run gtA (by rfl) (by rfl) (fun K_ hK_ => ?_); have HK_ := Lib.hid hK_; clear hK_; go_wp2_with (first | (go_at_call 95; (with_reducible refine (H0.out _ (HB.out.trans (Below.mono (w := V) (by exact blw) HB.out.size))).mono ?_); rintro e wa ⟨rfl, hba⟩; have hac := bc hba; have haf := bf hba; have haz := hba.size; try simp only [World.size_alloc, World.size_drew] at haz) | (go_at_call 95; (with_reducible refine (H2.out _ (HB.out.trans (Below.mono (w := V) (by exact blw) HB.out.size))).mono ?_); rintro e wb ⟨rfl, hbb⟩; have hbc := bc hbb; have hbf := bf hbb; have hbz := hbb.size; try simp only [World.size_alloc, World.size_drew] at hbz)); refine HK_.out _ _ (wld_ofA) ?_; clear HK_)
        (refine tree_quiet gtA (by rfl) (by rfl) (fun K_ hK_ => ?_); go_big_quiet_op; refine hK_ _ ?_; clear hK_ K_)
        (refine tree_run gtA (by rfl) (by rfl) (fun K_ hK_ => ?_); have HK_ := Lib.hid hK_; clear hK_; go_wp2_with (first | (go_at_call 95; (with_reducible refine (H0.out _ (HB.out.trans (Below.mono (w := V) (by exact blw) HB.out.size))).mono ?_); rintro e wa ⟨rfl, hba⟩; have hac := bc hba; have haf := bf hba; have haz := hba.size; try simp only [World.size_alloc, World.size_drew] at haz) | (go_at_call 95; (with_reducible refine (H2.out _ (HB.out.trans (Below.mono (w := V) (by exact blw) HB.out.size))).mono ?_); rintro e wb ⟨rfl, hbb⟩; have hbc := bc hbb; have hbf := bf hbb; have hbz := hbb.size; try simp only [World.size_alloc, World.size_drew] at hbz)); refine HK_.out _ _ (wld_ofA) ?_; clear HK_)
        refine tree_nil ?_
        refine leaf_any 5 [] (fun g5 V5 => Below V.heap.size V V5 ∧ V.heap.size ≤ g5 ∧ V5.heap[g5]? = some (.cells #[.int .i64 (y0 : Nat), .int .i64 (y2 : Nat), .int .i64 0, .int .i64 0] 88 (0, 0))) _ (by rfl) (by first | (simp only [blank, List.setIfInBounds_toArray, List.set_cons_succ, List.set_cons_zero]; rfl) | simp only [blank, List.setIfInBounds_toArray, List.set_cons_succ, List.set_cons_zero]) (hfin_ ()) ?_
        (refine ⟨blw, ?_, ?_⟩ <;> first | omega | (simp only [World.size_setCell, World.size_alloc, World.size_drew]; omega) | (with_reducible exact set4_new (by assumption)) | (with_reducible exact set4_new (bthen (by assumption) (by assumption))) | (with_reducible exact set4_newd (by assumption)) | (with_reducible exact set4_newd (bthen (by assumption) (by assumption))) | (rw [heap_push, if_pos rfl]; done))
    · have HK_ := Lib.hid hK_; clear hK_; go_wp2_with (first | (go_at_call 95; (with_reducible refine (H0.out _ (HB.out.trans (Below.mono (w := V) (by exact blw) HB.out.size))).mono ?_); rintro e wa ⟨rfl, hba⟩; have hac := bc hba; have haf := bf hba; have haz := hba.size; try simp only [World.size_alloc, World.size_drew] at haz) | (go_at_call 95; (with_reducible refine (H2.out _ (HB.out.trans (Below.mono (w := V) (by exact blw) HB.out.size))).mono ?_); rintro e wb ⟨rfl, hbb⟩; have hbc := bc hbb; have hbf := bf hbb; have hbz := hbb.size; try simp only [World.size_alloc, World.size_drew] at hbz)); refine HK_.out _ _ (wld_ofA) ?_; clear HK_
      (refine tree_run gtA (by rfl) (by rfl) (fun K_ hK_ => ?_); have HK_ := Lib.hid hK_; clear hK_; go_wp2_with (first | (go_at_call 95; (with_reducible refine (H0.out _ (HB.out.trans (Below.mono (w := V) (by exact blw) HB.out.size))).mono ?_); rintro e wa ⟨rfl, hba⟩; have hac := bc hba; have haf := bf hba; have haz := hba.size; try simp only [World.size_alloc, World.size_drew] at haz) | (go_at_call 95; (with_reducible refine (H2.out _ (HB.out.trans (Below.mono (w := V) (by exact blw) HB.out.size))).mono ?_); rintro e wb ⟨rfl, hbb⟩; have hbc := bc hbb; have hbf := bf hbb; have hbz := hbb.size; try simp only [World.size_alloc, World.size_drew] at hbz)); refine HK_.out _ _ (wld_ofA) ?_; clear HK_)
      (refine tree_run gtA (by rfl) (by rfl) (fun K_ hK_ => ?_); have HK_ := Lib.hid hK_; clear hK_; go_wp2_with (first | (go_at_call 95; (with_reducible refine (H0.out _ (HB.out.trans (Below.mono (w := V) (by exact blw) HB.out.size))).mono ?_); rintro e wa ⟨rfl, hba⟩; have hac := bc hba; have haf := bf hba; have haz := hba.size; try simp only [World.size_alloc, World.size_drew] at haz) | (go_at_call 95; (with_reducible refine (H2.out _ (HB.out.trans (Below.mono (w := V) (by exact blw) HB.out.size))).mono ?_); rintro e wb ⟨rfl, hbb⟩; have hbc := bc hbb; have hbf := bf hbb; have hbz := hbb.size; try simp only [World.size_alloc, World.size_drew] at hbz)); refine HK_.out _ _ (wld_ofA) ?_; clear HK_)
      (refine tree_quiet gtA (by rfl) (by rfl) (fun K_ hK_ => ?_); go_big_quiet_op; refine hK_ _ ?_; clear hK_ K_)
      (refine tree_run gtA (by rfl) (by rfl) (fun K_ hK_ => ?_); have HK_ := Lib.hid hK_; clear hK_; go_wp2_with (first | (go_at_call 95; (with_reducible refine (H0.out _ (HB.out.trans (Below.mono (w := V) (by exact blw) HB.out.size))).mono ?_); rintro e wa ⟨rfl, hba⟩; have hac := bc hba; have haf := bf hba; have haz := hba.size; try simp only [World.size_alloc, World.size_drew] at haz) | (go_at_call 95; (with_reducible refine (H2.out _ (HB.out.trans (Below.mono (w := V) (by exact blw) HB.out.size))).mono ?_); rintro e wb ⟨rfl, hbb⟩; have hbc := bc hbb; have hbf := bf hbb; have hbz := hbb.size; try simp only [World.size_alloc, World.size_drew] at hbz)); refine HK_.out _ _ (wld_ofA) ?_; clear HK_)
      refine tree_nil ?_
      refine leaf_any 5 [] (fun g5 V5 => Below V.heap.size V V5 ∧ V.heap.size ≤ g5 ∧ V5.heap[g5]? = some (.cells #[.int .i64 (y0 : Nat), .int .i64 (y2 : Nat), .int .i64 0, .int .i64 0] 88 (0, 0))) _ (by rfl) (by first | (simp only [blank, List.setIfInBounds_toArray, List.set_cons_succ, List.set_cons_zero]; rfl) | simp only [blank, List.setIfInBounds_toArray, List.set_cons_succ, List.set_cons_zero]) (hfin_ ()) ?_
      (refine ⟨blw, ?_, ?_⟩ <;> first | omega | (simp only [World.size_setCell, World.size_alloc, World.size_drew]; omega) | (with_reducible exact set4_new (by assumption)) | (with_reducible exact set4_new (bthen (by assumption) (by assumption))) | (with_reducible exact set4_newd (by assumption)) | (with_reducible exact set4_newd (bthen (by assumption) (by assumption))) | (rw [heap_push, if_pos rfl]; done))
  intro g5 x5 V5 ⟨b5, hg5, h5⟩
  simp only [fill, List.setIfInBounds_toArray, List.set_cons_succ, List.set_cons_zero]
  have B5 := Lib.hid (HB.out.trans (b5.mono HB.out.size))
  have H5 := Lib.hid h5
  have Q0 := Lib.hid ((b5.cell (p := ⟨w.heap.size, 0, none⟩) hl0).trans z0)
  have P1 := Lib.hid ((b5.block _ hl1).trans Z1.out)
  have hl5 := (Array.getElem?_eq_some_iff.1 h5).1
  have hg0 : w.heap.size ≠ g5 := by omega
  have hg1 : w.heap.size + 1 ≠ g5 := by omega
  have hgw : w.heap.size ≤ g5 := by omega
  clear b5 h5 z0 HB Z1
  have q06 := Q0.out
  go_wp2_with fail
  refine (H4.out _ B5.out).mono ?_
  rintro e w6 ⟨rfl, hb6⟩
  have e6 := (hb6.block g5 (Array.getElem?_eq_some_iff.1 H5.out).1).trans H5.out
  have c6 := fun o => cell_of_heap e6 o
  have f6 := fun o => froz_of_heap e6 o
  have he6 := set_heap_at (o := 2) (.int .i64 (y4 : Nat)) e6
  simp only [List.setIfInBounds_toArray, List.set_cons_succ, List.set_cons_zero] at he6
  have HE6 := Lib.hid he6
  have HB6 := Lib.hid ((B5.out.trans (hb6.mono B5.out.size)).setCell (p := ⟨g5, 2, none⟩) hgw (.int .i64 (y4 : Nat)))
  have QQ6 := Lib.hid ((cell_other (p := ⟨g5, 2, none⟩) (q := ⟨w.heap.size, 0, none⟩) (.int .i64 (y4 : Nat)) hg0).trans ((hb6.cell (p := ⟨w.heap.size, 0, none⟩) (cell_lt q06)).trans q06))
  have PP6 := Lib.hid ((set_heap_other (o := 2) (.int .i64 (y4 : Nat)) hg1).trans ((hb6.block _ (Array.getElem?_eq_some_iff.1 P1.out).1).trans P1.out))
  have hl56 : g5 < w6.heap.size := (Array.getElem?_eq_some_iff.1 e6).1
  clear he6 hb6 q06 H4
  have q5 := fun o => cell_of_heap HE6.out o
  have q1 := fun o => cell_of_heap PP6.out o
  have qf := fun o => froz_of_heap PP6.out o
  have hl1' := (Array.getElem?_eq_some_iff.1 PP6.out).1
  (try simp only [World.size_setCell] at hl1')
  go_wp2_with fail
  refine bodyPost_ret (v := .agg #[.int .i64 (y0 : Nat), .int .i64 (y2 : Nat), .int .i64 (y4 : Nat), .int .i64 0]) (by simp [results, Try.results164, go_sem, q5, q1, qf]) rfl ⟨rfl, ?_⟩
  exact bset (bset (bset (bset HB6.out (by simp) _) (by simp) _) (by simp) _) (by simp) _

set_option maxRecDepth 100000 in
set_option maxHeartbeats 1600000 in
theorem entry2 (a : Option Addr) (n c : Nat) (vb : List UInt8) (z : Int) (hz : z = 2) (w : World) (h : Has w a (bytesV vb)) (hl : vb.length = n) (h4 : 8 ≤ n) (hn : n ≤ c) (hc : c ≤ maxLen) :
    Calls Try.prog 164 #[.agg #[.slice a n c], .int .i64 z] w fun e w' => e = .returned (.agg #[.int .i64 (num vb 0 2 : Nat), .int .i64 (num vb 2 2 : Nat), .int .i64 (num vb 4 2 : Nat), .int .i64 (num vb 6 2 : Nat)]) ∧ Below w.heap.size w w' := by
  have hAC := allocC
  have hAF := allocF
  subst hz
  have H0 := Lib.hid (fun W (hW : Below w.heap.size w W) => u16_z a n c 0 0 rfl vb W (h.below hW) hl (by omega) hn hc)
  have H2 := Lib.hid (fun W (hW : Below w.heap.size w W) => u16_z a n c 2 2 rfl vb W (h.below hW) hl (by omega) hn hc)
  have H4 := Lib.hid (fun W (hW : Below w.heap.size w W) => u16_z a n c 4 4 rfl vb W (h.below hW) hl (by omega) hn hc)
  have H6 := Lib.hid (fun W (hW : Below w.heap.size w W) => u16_z a n c 6 6 rfl vb W (h.below hW) hl (by omega) hn hc)
  clear h hl hn hc h4
  generalize num vb 0 2 = y0 at *
  generalize num vb 2 2 = y2 at *
  generalize num vb 4 2 = y4 at *
  generalize num vb 6 2 = y6 at *
  go_enter Try.func164, Try.ntmps164
  go_wp2_with fail
  obtain ⟨V, hV⟩ : ∃ V, V = ((w.alloc (Obj.cells #[.slice a n c] 93)).alloc (Obj.cells #[.int .i64 0, .int .i64 0, .int .i64 0, .int .i64 0] 88)) := ⟨_, rfl⟩
  have hb : Below w.heap.size w V := by rw [hV]; exact blw
  have z0 : V.cell? ⟨w.heap.size, 0, none⟩ = some (.slice a n c) := by rw [hV, hAC, if_neg (by simp), hAC, if_pos rfl]; rfl
  have z1 : V.heap[w.heap.size + 1]? = some (.cells #[.int .i64 0, .int .i64 0, .int .i64 0, .int .i64 0] 88 (0, 0)) := by rw [hV, heap_push, if_pos (by simp)]
  rw [← hV]
  clear hV
  have HB := Lib.hid hb
  have Z1 := Lib.hid z1
  have hl0 := cell_lt z0
  have hl1 := (Array.getElem?_eq_some_iff.1 z1).1
  simp only at hl0
  clear hb z1
  apply cutP (R := ∀ (g_ : Nat) (x_ : Nat → Value) (W_ : World), (fun g5 V5 => Below V.heap.size V V5 ∧ V.heap.size ≤ g5 ∧ V5.heap[g5]? = some (.cells #[.int .i64 (y0 : Nat), .int .i64 (y2 : Nat), .int .i64 0, .int .i64 0] 88 (0, 0))) g_ W_ → _)
  · intro hfin_
    refine wp_region_tree (.step 0 (.step 2 (.two 1 (.two 3 (.step 4 (.step 5 (.step 6 .nil))) 5 (.step 3 (.step 4 (.step 6 .nil)))) 5 (.step 1 (.step 3 (.step 4 (.step 6 .nil))))))) (by kernel_rfl) (by kernel_rfl) (by kernel_rfl) (by kernel_rfl) (by intro _ _ d_ _ _ h_; cases d_ <;> first | exact h_ | (dsimp +zetaDelta only at h_ ⊢; exact h_)) (fun w' => ∃ p : Wld V [], w' = p.val) (wld_start _ _) ?_
    have hG_ := @wldC V
    (refine tree_quiet gtA (by rfl) (by rfl) (fun K_ hK_ => ?_); go_big_quiet_op; refine hK_ _ ?_; clear hK_ K_)
    (refine tree_quiet gtA (by rfl) (by rfl) (fun K_ hK_ => ?_); go_big_quiet_op; refine hK_ _ ?_; clear hK_ K_)
    refine tree_two gtA gtA (by rfl) (by rfl) (fun K_ hK_ => ?_) (fun K_ hK_ => ?_)
    · have HK_ := Lib.hid hK_; clear hK_; go_wp2_with (first | (go_at_call 95; (with_reducible refine (H0.out _ (HB.out.trans (Below.mono (w := V) (by exact blw) HB.out.size))).mono ?_); rintro e wa ⟨rfl, hba⟩; have hac := bc hba; have haf := bf hba; have haz := hba.size; try simp only [World.size_alloc, World.size_drew] at haz) | (go_at_call 95; (with_reducible refine (H2.out _ (HB.out.trans (Below.mono (w := V) (by exact blw) HB.out.size))).mono ?_); rintro e wb ⟨rfl, hbb⟩; have hbc := bc hbb; have hbf := bf hbb; have hbz := hbb.size; try simp only [World.size_alloc, World.size_drew] at hbz)); refine HK_.out _ _ (wld_ofA) ?_; clear HK_
      refine tree_two gtA gtA (by rfl) (by rfl) (fun K_ hK_ => ?_) (fun K_ hK_ => ?_)
      · have HK_ := Lib.hid hK_; clear hK_; go_wp2_with (first | (go_at_call 95; (with_reducible refine (H0.out _ (HB.out.trans (Below.mono (w := V) (by exact blw) HB.out.size))).mono ?_); rintro e wa ⟨rfl, hba⟩; have hac := bc hba; have haf := bf hba; have haz := hba.size; try simp only [World.size_alloc, World.size_drew] at haz) | (go_at_call 95; (with_reducible refine (H2.out _ (HB.out.trans (Below.mono (w := V) (by exact blw) HB.out.size))).mono ?_); rintro e wb ⟨rfl, hbb⟩; have hbc := bc hbb; have hbf := bf hbb; have hbz := hbb.size; try simp only [World.size_alloc, World.size_drew] at hbz)); refine HK_.out _ _ (wld_ofA) ?_; clear HK_
        (refine tree_quiet gtA (by rfl) (by rfl) (fun K_ hK_ => ?_); go_big_quiet_op; refine hK_ _ ?_; clear hK_ K_)
        (refine tree_run gtA (by rfl) (by rfl) (fun K_ hK_ => ?_); have HK_ := Lib.hid hK_; clear hK_; go_wp2_with (first | (go_at_call 95; (with_reducible refine (H0.out _ (HB.out.trans (Below.mono (w := V) (by exact blw) HB.out.size))).mono ?_); rintro e wa ⟨rfl, hba⟩; have hac := bc hba; have haf := bf hba; have haz := hba.size; try simp only [World.size_alloc, World.size_drew] at haz) | (go_at_call 95; (with_reducible refine (H2.out _ (HB.out.trans (Below.mono (w := V) (by exact blw) HB.out.size))).mono ?_); rintro e wb ⟨rfl, hbb⟩; have hbc := bc hbb; have hbf := bf hbb; have hbz := hbb.size; try simp only [World.size_alloc, World.size_drew] at hbz)); refine HK_.out _ _ (wld_ofA) ?_; clear HK_)
        (refine tree_run gtA (by rfl) (by rfl) (fun K_ hK_ => ?_); have HK_ := Lib.hid hK_; clear hK_; go_wp2_with (first | (go_at_call 95; (with_reducible refine (H0.out _ (HB.out.trans (Below.mono (w := V) (by exact blw) HB.out.size))).mono ?_); rintro e wa ⟨rfl, hba⟩; have hac := bc hba; have haf := bf hba; have haz := hba.size; try simp only [World.size_alloc, World.size_drew] at haz) | (go_at_call 95; (with_reducible refine (H2.out _ (HB.out.trans (Below.mono (w := V) (by exact blw) HB.out.size))).mono ?_); rintro e wb ⟨rfl, hbb⟩; have hbc := bc hbb; have hbf := bf hbb; have hbz := hbb.size; try simp only [World.size_alloc, World.size_drew] at hbz)); refine HK_.out _ _ (wld_ofA) ?_; clear HK_)
        refine tree_nil ?_
        refine leaf_any 5 [] (fun g5 V5 => Below V.heap.size V V5 ∧ V.heap.size ≤ g5 ∧ V5.heap[g5]? = some (.cells #[.int .i64 (y0 : Nat), .int .i64 (y2 : Nat), .int .i64 0, .int .i64 0] 88 (0, 0))) _ (by rfl) (by first | (simp only [blank, List.setIfInBounds_toArray, List.set_cons_succ, List.set_cons_zero]; rfl) | simp only [blank, List.setIfInBounds_toArray, List.set_cons_succ, List.set_cons_zero]) (hfin_ ()) ?_
        (refine ⟨blw, ?_, ?_⟩ <;> first | omega | (simp only [World.size_setCell, World.size_alloc, World.size_drew]; omega) | (with_reducible exact set4_new (by assumption)) | (with_reducible exact set4_new (bthen (by assumption) (by assumption))) | (with_reducible exact set4_newd (by assumption)) | (with_reducible exact set4_newd (bthen (by assumption) (by assumption))) | (rw [heap_push, if_pos rfl]; done))
      · have HK_ := Lib.hid hK_; clear hK_; go_wp2_with (first | (go_at_call 95; (with_reducible refine (H0.out _ (HB.out.trans (Below.mono (w := V) (by exact blw) HB.out.size))).mono ?_); rintro e wa ⟨rfl, hba⟩; have hac := bc hba; have haf := bf hba; have haz := hba.size; try simp only [World.size_alloc, World.size_drew] at haz) | (go_at_call 95; (with_reducible refine (H2.out _ (HB.out.trans (Below.mono (w := V) (by exact blw) HB.out.size))).mono ?_); rintro e wb ⟨rfl, hbb⟩; have hbc := bc hbb; have hbf := bf hbb; have hbz := hbb.size; try simp only [World.size_alloc, World.size_drew] at hbz)); refine HK_.out _ _ (wld_ofA) ?_; clear HK_
        (refine tree_run gtA (by rfl) (by rfl) (fun K_ hK_ => ?_); have HK_ := Lib.hid hK_; clear hK_; go_wp2_with (first | (go_at_call 95; (with_reducible refine (H0.out _ (HB.out.trans (Below.mono (w := V) (by exact blw) HB.out.size))).mono ?_); rintro e wa ⟨rfl, hba⟩; have hac := bc hba; have haf := bf hba; have haz := hba.size; try simp only [World.size_alloc, World.size_drew] at haz) | (go_at_call 95; (with_reducible refine (H2.out _ (HB.out.trans (Below.mono (w := V) (by exact blw) HB.out.size))).mono ?_); rintro e wb ⟨rfl, hbb⟩; have hbc := bc hbb; have hbf := bf hbb; have hbz := hbb.size; try simp only [World.size_alloc, World.size_drew] at hbz)); refine HK_.out _ _ (wld_ofA) ?_; clear HK_)
        (refine tree_quiet gtA (by rfl) (by rfl) (fun K_ hK_ => ?_); go_big_quiet_op; refine hK_ _ ?_; clear hK_ K_)
        (refine tree_run gtA (by rfl) (by rfl) (fun K_ hK_ => ?_); have HK_ := Lib.hid hK_; clear hK_; go_wp2_with (first | (go_at_call 95; (with_reducible refine (H0.out _ (HB.out.trans (Below.mono (w := V) (by exact blw) HB.out.size))).mono ?_); rintro e wa ⟨rfl, hba⟩; have hac := bc hba; have haf := bf hba; have haz := hba.size; try simp only [World.size_alloc, World.size_drew] at haz) | (go_at_call 95; (with_reducible refine (H2.out _ (HB.out.trans (Below.mono (w := V) (by exact blw) HB.out.size))).mono ?_); rintro e wb ⟨rfl, hbb⟩; have hbc := bc hbb; have hbf := bf hbb; have hbz := hbb.size; try simp only [World.size_alloc, World.size_drew] at hbz)); refine HK_.out _ _ (wld_ofA) ?_; clear HK_)
        refine tree_nil ?_
        refine leaf_any 5 [] (fun g5 V5 => Below V.heap.size V V5 ∧ V.heap.size ≤ g5 ∧ V5.heap[g5]? = some (.cells #[.int .i64 (y0 : Nat), .int .i64 (y2 : Nat), .int .i64 0, .int .i64 0] 88 (0, 0))) _ (by rfl) (by first | (simp only [blank, List.setIfInBounds_toArray, List.set_cons_succ, List.set_cons_zero]; rfl) | simp only [blank, List.setIfInBounds_toArray, List.set_cons_succ, List.set_cons_zero]) (hfin_ ()) ?_
        (refine ⟨blw, ?_, ?_⟩ <;> first | omega | (simp only [World.size_setCell, World.size_alloc, World.size_drew]; omega) | (with_reducible exact set4_new (by assumption)) | (with_reducible exact set4_new (bthen (by assumption) (by assumption))) | (with_reducible exact set4_newd (by assumption)) | (with_reducible exact set4_newd (bthen (by assumption) (by assumption))) | (rw [heap_push, if_pos rfl]; done))
    · have HK_ := Lib.hid hK_; clear hK_; go_wp2_with (first | (go_at_call 95; (with_reducible refine (H0.out _ (HB.out.trans (Below.mono (w := V) (by exact blw) HB.out.size))).mono ?_); rintro e wa ⟨rfl, hba⟩; have hac := bc hba; have haf := bf hba; have haz := hba.size; try simp only [World.size_alloc, World.size_drew] at haz) | (go_at_call 95; (with_reducible refine (H2.out _ (HB.out.trans (Below.mono (w := V) (by exact blw) HB.out.size))).mono ?_); rintro e wb ⟨rfl, hbb⟩; have hbc := bc hbb; have hbf := bf hbb; have hbz := hbb.size; try simp only [World.size_alloc, World.size_drew] at hbz)); refine HK_.out _ _ (wld_ofA) ?_; clear HK_
      (refine tree_run gtA (by rfl) (by rfl) (fun K_ hK_ => ?_); have HK_ := Lib.hid hK_; clear hK_; go_wp2_with (first | (go_at_call 95; (with_reducible refine (H0.out _ (HB.out.trans (Below.mono (w := V) (by exact blw) HB.out.size))).mono ?_); rintro e wa ⟨rfl, hba⟩; have hac := bc hba; have haf := bf hba; have haz := hba.size; try simp only [World.size_alloc, World.size_drew] at haz) | (go_at_call 95; (with_reducible refine (H2.out _ (HB.out.trans (Below.mono (w := V) (by exact blw) HB.out.size))).mono ?_); rintro e wb ⟨rfl, hbb⟩; have hbc := bc hbb; have hbf := bf hbb; have hbz := hbb.size; try simp only [World.size_alloc, World.size_drew] at hbz)); refine HK_.out _ _ (wld_ofA) ?_; clear HK_)
      (refine tree_run gtA (by rfl) (by rfl) (fun K_ hK_ => ?_); have HK_ := Lib.hid hK_; clear hK_; go_wp2_with (first | (go_at_call 95; (with_reducible refine (H0.out _ (HB.out.trans (Below.mono (w := V) (by exact blw) HB.out.size))).mono ?_); rintro e wa ⟨rfl, hba⟩; have hac := bc hba; have haf := bf hba; have haz := hba.size; try simp only [World.size_alloc, World.size_drew] at haz) | (go_at_call 95; (with_reducible refine (H2.out _ (HB.out.trans (Below.mono (w := V) (by exact blw) HB.out.size))).mono ?_); rintro e wb ⟨rfl, hbb⟩; have hbc := bc hbb; have hbf := bf hbb; have hbz := hbb.size; try simp only [World.size_alloc, World.size_drew] at hbz)); refine HK_.out _ _ (wld_ofA) ?_; clear HK_)
      (refine tree_quiet gtA (by rfl) (by rfl) (fun K_ hK_ => ?_); go_big_quiet_op; refine hK_ _ ?_; clear hK_ K_)
      (refine tree_run gtA (by rfl) (by rfl) (fun K_ hK_ => ?_); have HK_ := Lib.hid hK_; clear hK_; go_wp2_with (first | (go_at_call 95; (with_reducible refine (H0.out _ (HB.out.trans (Below.mono (w := V) (by exact blw) HB.out.size))).mono ?_); rintro e wa ⟨rfl, hba⟩; have hac := bc hba; have haf := bf hba; have haz := hba.size; try simp only [World.size_alloc, World.size_drew] at haz) | (go_at_call 95; (with_reducible refine (H2.out _ (HB.out.trans (Below.mono (w := V) (by exact blw) HB.out.size))).mono ?_); rintro e wb ⟨rfl, hbb⟩; have hbc := bc hbb; have hbf := bf hbb; have hbz := hbb.size; try simp only [World.size_alloc, World.size_drew] at hbz)); refine HK_.out _ _ (wld_ofA) ?_; clear HK_)
      refine tree_nil ?_
      refine leaf_any 5 [] (fun g5 V5 => Below V.heap.size V V5 ∧ V.heap.size ≤ g5 ∧ V5.heap[g5]? = some (.cells #[.int .i64 (y0 : Nat), .int .i64 (y2 : Nat), .int .i64 0, .int .i64 0] 88 (0, 0))) _ (by rfl) (by first | (simp only [blank, List.setIfInBounds_toArray, List.set_cons_succ, List.set_cons_zero]; rfl) | simp only [blank, List.setIfInBounds_toArray, List.set_cons_succ, List.set_cons_zero]) (hfin_ ()) ?_
      (refine ⟨blw, ?_, ?_⟩ <;> first | omega | (simp only [World.size_setCell, World.size_alloc, World.size_drew]; omega) | (with_reducible exact set4_new (by assumption)) | (with_reducible exact set4_new (bthen (by assumption) (by assumption))) | (with_reducible exact set4_newd (by assumption)) | (with_reducible exact set4_newd (bthen (by assumption) (by assumption))) | (rw [heap_push, if_pos rfl]; done))
  intro g5 x5 V5 ⟨b5, hg5, h5⟩
  simp only [fill, List.setIfInBounds_toArray, List.set_cons_succ, List.set_cons_zero]
  have B5 := Lib.hid (HB.out.trans (b5.mono HB.out.size))
  have H5 := Lib.hid h5
  have Q0 := Lib.hid ((b5.cell (p := ⟨w.heap.size, 0, none⟩) hl0).trans z0)
  have P1 := Lib.hid ((b5.block _ hl1).trans Z1.out)
  have hl5 := (Array.getElem?_eq_some_iff.1 h5).1
  have hg0 : w.heap.size ≠ g5 := by omega
  have hg1 : w.heap.size + 1 ≠ g5 := by omega
  have hgw : w.heap.size ≤ g5 := by omega
  clear b5 h5 z0 HB Z1
  have q06 := Q0.out
  go_wp2_with fail
  refine (H4.out _ B5.out).mono ?_
  rintro e w6 ⟨rfl, hb6⟩
  have e6 := (hb6.block g5 (Array.getElem?_eq_some_iff.1 H5.out).1).trans H5.out
  have c6 := fun o => cell_of_heap e6 o
  have f6 := fun o => froz_of_heap e6 o
  have he6 := set_heap_at (o := 2) (.int .i64 (y4 : Nat)) e6
  simp only [List.setIfInBounds_toArray, List.set_cons_succ, List.set_cons_zero] at he6
  have HE6 := Lib.hid he6
  have HB6 := Lib.hid ((B5.out.trans (hb6.mono B5.out.size)).setCell (p := ⟨g5, 2, none⟩) hgw (.int .i64 (y4 : Nat)))
  have QQ6 := Lib.hid ((cell_other (p := ⟨g5, 2, none⟩) (q := ⟨w.heap.size, 0, none⟩) (.int .i64 (y4 : Nat)) hg0).trans ((hb6.cell (p := ⟨w.heap.size, 0, none⟩) (cell_lt q06)).trans q06))
  have PP6 := Lib.hid ((set_heap_other (o := 2) (.int .i64 (y4 : Nat)) hg1).trans ((hb6.block _ (Array.getElem?_eq_some_iff.1 P1.out).1).trans P1.out))
  have hl56 : g5 < w6.heap.size := (Array.getElem?_eq_some_iff.1 e6).1
  clear he6 hb6 q06 H4
  have q07 := QQ6.out
  go_wp2_with fail
  refine (H6.out _ HB6.out).mono ?_
  rintro e w7 ⟨rfl, hb7⟩
  have e7 := (hb7.block g5 (Array.getElem?_eq_some_iff.1 HE6.out).1).trans HE6.out
  have c7 := fun o => cell_of_heap e7 o
  have f7 := fun o => froz_of_heap e7 o
  have he7 := set_heap_at (o := 3) (.int .i64 (y6 : Nat)) e7
  simp only [List.setIfInBounds_toArray, List.set_cons_succ, List.set_cons_zero] at he7
  have HE7 := Lib.hid he7
  have HB7 := Lib.hid ((HB6.out.trans (hb7.mono HB6.out.size)).setCell (p := ⟨g5, 3, none⟩) hgw (.int .i64 (y6 : Nat)))
  have QQ7 := Lib.hid ((cell_other (p := ⟨g5, 3, none⟩) (q := ⟨w.heap.size, 0, none⟩) (.int .i64 (y6 : Nat)) hg0).trans ((hb7.cell (p := ⟨w.heap.size, 0, none⟩) (cell_lt q07)).trans q07))
  have PP7 := Lib.hid ((set_heap_other (o := 3) (.int .i64 (y6 : Nat)) hg1).trans ((hb7.block _ (Array.getElem?_eq_some_iff.1 PP6.out).1).trans PP6.out))
  have hl57 : g5 < w7.heap.size := (Array.getElem?_eq_some_iff.1 e7).1
  clear he7 hb7 q07 H6
  have q5 := fun o => cell_of_heap HE7.out o
  have q1 := fun o => cell_of_heap PP7.out o
  have qf := fun o => froz_of_heap PP7.out o
  have hl1' := (Array.getElem?_eq_some_iff.1 PP7.out).1
  (try simp only [World.size_setCell] at hl1')
  go_wp2_with fail
  refine bodyPost_ret (v := .agg #[.int .i64 (y0 : Nat), .int .i64 (y2 : Nat), .int .i64 (y4 : Nat), .int .i64 (y6 : Nat)]) (by simp [results, Try.results164, go_sem, q5, q1, qf]) rfl ⟨rfl, ?_⟩
  exact bset (bset (bset (bset HB7.out (by simp) _) (by simp) _) (by simp) _) (by simp) _
theorem entry_any (a : Option Addr) (n c : Nat) (vb : List UInt8) (k : Nat) (hk : k ≤ 2) (z : Int) (hz : z = (k : Nat)) (w : World) (h : Has w a (bytesV vb)) (hl : vb.length = n) (h4 : 4 + 2 * k ≤ n) (hn : n ≤ c) (hc : c ≤ maxLen) :
    Calls Try.prog 164 #[.agg #[.slice a n c], .int .i64 z] w fun e w' => e = .returned (.agg #[.int .i64 (num vb 0 2 : Nat), .int .i64 (num vb 2 2 : Nat), .int .i64 ((if 0 < k then num vb 4 2 else 0 : Nat) : Int), .int .i64 ((if 1 < k then num vb 6 2 else 0 : Nat) : Int)]) ∧ Below w.heap.size w w' := by
  have : k = 0 ∨ k = 1 ∨ k = 2 := by omega
  rcases this with rfl | rfl | rfl
  · exact entry0 a n c vb z hz w h hl h4 hn hc
  · exact entry1 a n c vb z hz w h hl h4 hn hc
  · exact entry2 a n c vb z hz w h hl h4 hn hc

/-- One more than the greatest of so many numbers; nought of none. -/
def needL (f : Nat → Nat) : Nat → Nat
  | 0 => 0
  | n + 1 => max (needL f n) (f n + 1)
theorem needL_succ (f : Nat → Nat) (n : Nat) : needL f (n + 1) = max (needL f n) (f n + 1) := rfl
theorem needL_mono (f : Nat → Nat) {a b : Nat} (h : a ≤ b) : needL f a ≤ needL f b := by
  induction b with
  | zero => obtain rfl : a = 0 := by omega
            exact Nat.le_refl _
  | succ b ih =>
    rcases Nat.lt_or_ge b a with g | g
    · obtain rfl : a = b + 1 := by omega
      exact Nat.le_refl _
    · have := ih g
      rw [needL_succ]
      omega
theorem needL_lt {f : Nat → Nat} {n i : Nat} (h : i < n) : f i < needL f n := by
  have := needL_mono f (show i + 1 ≤ n by omega)
  rw [needL_succ] at this
  omega
theorem needL_le {f : Nat → Nat} {n m : Nat} (h : ∀ i, i < n → f i < m) : needL f n ≤ m := by
  induction n with
  | zero => exact Nat.zero_le _
  | succ n ih =>
    have h1 := ih fun i hi => h i (by omega)
    have h2 := h n (by omega)
    rw [needL_succ]
    omega
/-- The entry that the i-th cell of the states tells; the state that the j-th entry tells. -/
def entN (bs : List UInt8) (i : Nat) : Nat := num bs (num bs 8 4 + 2 * i) 2
def nextN (bs : List UInt8) (k j : Nat) : Nat := num bs (num bs 12 4 + j * (4 + 2 * k)) 2
def needE (bs : List UInt8) (S : Nat) : Nat := needL (entN bs) (S * num bs 0 4)
def needS (bs : List UInt8) (k N : Nat) : Nat := needL (nextN bs k) N
def MClosed (bs : List UInt8) (k S : Nat) : Prop := 2 ≤ S ∧ needS bs k (needE bs S) ≤ S
structure MLeast (bs : List UInt8) (k S : Nat) : Prop where
  closed : MClosed bs k S
  least : ∀ S', MClosed bs k S' → S ≤ S'
theorem MLeast.det {bs : List UInt8} {k S1 S2 : Nat} (h1 : MLeast bs k S1) (h2 : MLeast bs k S2) : S1 = S2 :=
  Nat.le_antisymm (h1.least _ h2.closed) (h2.least _ h1.closed)
theorem needE_le (bs : List UInt8) (S : Nat) : needE bs S ≤ 65536 := needL_le fun i _ => by have := num2_lt bs (num bs 8 4 + 2 * i); unfold entN; omega
theorem needS_le (bs : List UInt8) (k N : Nat) : needS bs k N ≤ 65536 := needL_le fun i _ => by have := num2_lt bs (num bs 12 4 + i * (4 + 2 * k)); unfold nextN; omega
theorem needE_mono (bs : List UInt8) {a b : Nat} (h : a ≤ b) : needE bs a ≤ needE bs b := needL_mono _ (Nat.mul_le_mul_right _ h)
theorem needS_mono (bs : List UInt8) (k : Nat) {a b : Nat} (h : a ≤ b) : needS bs k a ≤ needS bs k b := needL_mono _ h
structure MOk (bs : List UInt8) (glyphs k : Nat) (rs : List RP) (S : Nat) : Prop where
  len : 16 ≤ bs.length
  cls : 4 ≤ num bs 0 4 ∧ num bs 0 4 ≤ 65535
  at_ : num bs 4 4 ≤ bs.length
  lk : LkOk (bs.drop (num bs 4 4)) glyphs 2 rs
  rows : num bs 8 4 ≤ bs.length
  ents : num bs 12 4 ≤ bs.length
  least : MLeast bs k S
  fitS : S * (2 * num bs 0 4) ≤ bs.length - num bs 8 4
  fitE : needE bs S * (4 + 2 * k) ≤ bs.length - num bs 12 4
theorem MOk.det {bs : List UInt8} {glyphs k : Nat} {r1 r2 : List RP} {S1 S2 : Nat} (h1 : MOk bs glyphs k r1 S1) (h2 : MOk bs glyphs k r2 S2) : r1 = r2 ∧ S1 = S2 := ⟨h1.lk.det h2.lk, h1.least.det h2.least⟩
/-- How far filling a machine has come: so many states, so many entries, so many states that are asked for. -/
def MInv (bs : List UInt8) (k s n need : Nat) : Prop :=
  (s = 0 ∧ n = 0 ∧ need = 2) ∨ (2 ≤ s ∧ n = needE bs s ∧ (∀ S', MClosed bs k S' → s ≤ S') ∧ max s need = max s (needS bs k n))
theorem MInv.start (bs : List UInt8) (k : Nat) : MInv bs k 0 0 2 := .inl ⟨rfl, rfl, rfl⟩
theorem MInv.ents {bs : List UInt8} {k s n need : Nat} (h : MInv bs k s n need) : n = needE bs s := by
  rcases h with ⟨rfl, rfl, _⟩ | ⟨_, h, _⟩
  · simp [needE, needL]
  · exact h
theorem MInv.ends {bs : List UInt8} {k s n need : Nat} (h : MInv bs k s n need) (hl : need ≤ s) : MLeast bs k s := by
  rcases h with ⟨rfl, rfl, rfl⟩ | ⟨h2, rfl, hc, hm⟩
  · omega
  · exact ⟨⟨h2, by omega⟩, hc⟩
theorem MInv.need {bs : List UInt8} {k s n need : Nat} (h : MInv bs k s n need) (hl : s < need) : 2 ≤ need ∧ need ≤ 65536 ∧ needS bs k n ≤ need ∧ ∀ S', MClosed bs k S' → need ≤ S' := by
  rcases h with ⟨rfl, rfl, rfl⟩ | ⟨h2, rfl, hc, hm⟩
  · exact ⟨by omega, by omega, Nat.zero_le _, fun S' h' => h'.1⟩
  · have h9 := needS_le bs k (needE bs s)
    refine ⟨by omega, by omega, by omega, fun S' h' => ?_⟩
    have h3 := hc S' h'
    have h4 := needS_mono bs k (needE_mono bs h3)
    have h5 := h'.2
    omega
/-- The states' entries from the s-th state on to the m-th: one more than the greatest. -/
def needF (f : Nat → Nat) (a : Nat) : Nat → Nat
  | 0 => 0
  | n + 1 => max (needF f a n) (f (a + n) + 1)
theorem needF_succ (f : Nat → Nat) (a n : Nat) : needF f a (n + 1) = max (needF f a n) (f (a + n) + 1) := rfl
theorem needL_split (f : Nat → Nat) (a : Nat) : ∀ n, needL f (a + n) = max (needL f a) (needF f a n)
  | 0 => by simp [needF]
  | n + 1 => by rw [← Nat.add_assoc, needL_succ, needL_split f a n, needF_succ]; omega
theorem needF_le {f : Nat → Nat} {a n m : Nat} (h : ∀ i, f i < m) : needF f a n ≤ m := by
  induction n with
  | zero => exact Nat.zero_le _
  | succ n ih => have := h (a + n); rw [needF_succ]; omega
theorem MInv.step {bs : List UInt8} {k s n need e : Nat} (h : MInv bs k s n need) (hl : s < need) (he : e = needF (entN bs) (s * num bs 0 4) ((need - s) * num bs 0 4)) :
    MInv bs k need (max n e) (needF (nextN bs k) n (e - n)) ∧ max n e = needE bs need := by
  obtain ⟨h2, h3, h4, h5⟩ := h.need hl
  have hn := h.ents
  have hE : needE bs need = max n e := by
    have := needL_split (entN bs) (s * num bs 0 4) ((need - s) * num bs 0 4)
    rw [← Nat.add_mul, show s + (need - s) = need by omega] at this
    rw [hn, he]
    exact this
  refine ⟨.inr ⟨h2, hE.symm, h5, ?_⟩, hE.symm⟩
  have := needL_split (nextN bs k) n (e - n)
  rw [show n + (e - n) = max n e by omega] at this
  have hN : needS bs k (max n e) = max (needS bs k n) (needF (nextN bs k) n (e - n)) := this
  omega
theorem ex_least (bs : List UInt8) (k : Nat) : ∃ S, MLeast bs k S := by
  have h : ∀ m s, 65536 ≤ s + m → 2 ≤ s → (∀ S', MClosed bs k S' → s ≤ S') → ∃ S, MLeast bs k S := by
    intro m
    induction m with
    | zero => intro s h1 h2 h3; exact ⟨s, ⟨h2, by have := needS_le bs k (needE bs s); omega⟩, h3⟩
    | succ m ih =>
      intro s h1 h2 h3
      by_cases hc : needS bs k (needE bs s) ≤ s
      · exact ⟨s, ⟨h2, hc⟩, h3⟩
      · exact ih (needS bs k (needE bs s)) (by omega) (by omega) fun S' h' => by
          have h4 := needS_mono bs k (needE_mono bs (h3 S' h'))
          have h5 := h'.2
          omega
  exact h 65536 2 (by omega) (by omega) fun S' h' => h'.1

theorem KeepC.appM {B base : Nat} {own : Nat → Nat → Prop} {w w' : World} {e size n : Nat} {v : Value} {xs : List Value} (h : w.ownsRow base e size v n xs) (hB : B ≤ base) (hb : Below base w w') (hg : w.grownBy w' v.ownBlock) (ho : ∀ k, own k e) : KeepC B own w w' := by
  refine ⟨hb.mono hB, hg.size, fun k cs t fz hk hn => hg.block k (Array.getElem?_eq_some_iff.1 hk).1 ?_⟩
  intro e'
  rcases h.2 with ⟨rfl, _⟩ | ⟨g, cap, cur, rfl, _, hh, _⟩
  · simp [Value.ownBlock] at e'
  · obtain rfl : g = k := by simpa [Value.ownBlock] using e'.symm
    rw [hh] at hk
    injection hk with hk
    injection hk with _ h2 _
    subst h2
    exact hn (ho _)
/-- A machine's four cells. -/
def machC (C : Nat) (lk S E : Value) : Array Value := #[.int .i64 (C : Nat), lk, S, E]
def stV (f : Nat → Nat) (C i : Nat) : List Value := (List.range C).map fun c => .int .u16 (f (i * C + c) : Nat)
structure MRows (B : Nat) (f : Nat → Nat) (C : Nat) (vs : List Value) (w : World) : Prop where
  each : ∀ i v, vs[i]? = some v → ∃ gi : Nat, v = .slice (some ⟨gi, 0, none⟩) C C ∧ w.ownsRow B 157 1 v C (stV f C i)
def ent16 (sb : List UInt8) (i : Nat) : Nat := num sb (2 * i) 2
def entV (vb : List UInt8) (k j : Nat) : List Value := [.int .i64 (num vb (j * (4 + 2 * k)) 2 : Nat), .int .i64 (num vb (j * (4 + 2 * k) + 2) 2 : Nat), .int .i64 ((if 0 < k then num vb (j * (4 + 2 * k) + 4) 2 else 0 : Nat) : Int), .int .i64 ((if 1 < k then num vb (j * (4 + 2 * k) + 6) 2 else 0 : Nat) : Int)]
def entsV (vb : List UInt8) (k n : Nat) : List Value := (List.range n).flatMap (entV vb k)
theorem entsV_succ (vb : List UInt8) (k n : Nat) : entsV vb k (n + 1) = entsV vb k n ++ entV vb k n := by simp [entsV, List.range_succ]
theorem entsV_length (vb : List UInt8) (k n : Nat) : (entsV vb k n).length = n * 4 := by
  induction n with
  | zero => rfl
  | succ n ih => rw [entsV_succ, List.length_append, ih]; simp [entV]; omega
structure MSt (B g C : Nat) (lk : Value) (f : Nat → Nat) (eb : List UInt8) (k s n : Nat) (w : World) : Prop where
  is : ∃ (aS : Option Addr) (cS : Nat) (vs : List Value) (aE : Option Addr) (cE : Nat), w.heap[g]? = some (.cells (machC C lk (.slice aS s cS) (.slice aE n cE)) 224 (0, 0)) ∧
    w.ownsRow B 53 1 (.slice aS s cS) s vs ∧ MRows B f C vs w ∧ w.ownsRow B 88 4 (.slice aE n cE) n (entsV eb k n)
def ownM (k t : Nat) : Prop := t = 53 ∨ t = 88 ∨ t = 224
theorem MRows.keep {B B0 : Nat} {f : Nat → Nat} {C : Nat} {vs : List Value} {w w' : World} (h : MRows B f C vs w) (hk : KeepC B0 ownM w w') : MRows B f C vs w' :=
  ⟨fun i v hv => by
    obtain ⟨gi, h1, h2⟩ := h.each i v hv
    exact ⟨gi, h1, hk.owns h2 fun k hx => by rcases hx with hx | hx | hx <;> exact absurd hx (by decide)⟩⟩
theorem MRows.snoc {B : Nat} {f : Nat → Nat} {C s : Nat} {vs : List Value} {w : World} (h : MRows B f C vs w) (hl : vs.length = s) {gi : Nat} (ho : w.ownsRow B 157 1 (.slice (some ⟨gi, 0, none⟩) C C) C (stV f C s)) : MRows B f C (vs ++ [.slice (some ⟨gi, 0, none⟩) C C]) w :=
  ⟨fun i v hv => by
    rcases Nat.lt_trichotomy i s with g | g | g
    · rw [List.getElem?_append_left (by omega)] at hv
      exact h.each i v hv
    · subst g
      rw [List.getElem?_append_right (by omega), hl, Nat.sub_self] at hv
      simp at hv
      subst hv
      exact ⟨gi, rfl, ho⟩
    · rw [List.getElem?_eq_none (by simp; omega)] at hv
      cases hv⟩
theorem MSt.below {B g C : Nat} {lk : Value} {f : Nat → Nat} {eb : List UInt8} {k s n : Nat} {w w' : World} (h : MSt B g C lk f eb k s n w) (hb : Below w.heap.size w w') : MSt B g C lk f eb k s n w' := by
  obtain ⟨aS, cS, vs, aE, cE, h1, h2, h3, h4⟩ := h.is
  exact ⟨aS, cS, vs, aE, cE, (hb.block g (Array.getElem?_eq_some_iff.1 h1).1).trans h1, owns_below h2 hb (Nat.le_refl _), h3.keep (KeepC.of hb (Nat.le_refl _)), owns_below h4 hb (Nat.le_refl _)⟩
/-- The rows of numbers while the last one is written. -/
def zero16 (m : Nat) : List Value := List.replicate m (.int .u16 0)
theorem made_u16 (n : Nat) : (madeCells (Value.int .u16 0).cells (n * 1)).toList = zero16 n := by
  apply List.ext_getElem?
  intro j
  simp only [madeCells, Value.cells, zero16]
  by_cases h : j < n
  · simp [h, Nat.mod_one]
  · simp [h]
def part16 (f : Nat → Nat) (C i j : Nat) : List Value := ((List.range j).map fun c => .int .u16 (f (i * C + c) : Nat)) ++ zero16 (C - j)
theorem part16_zero (f : Nat → Nat) (C i : Nat) : part16 f C i 0 = zero16 C := by simp [part16]
theorem part16_all (f : Nat → Nat) (C i : Nat) : part16 f C i C = stV f C i := by simp [part16, stV, zero16]
theorem part16_set (f : Nat → Nat) (C i j : Nat) (h : j < C) : (part16 f C i j).set j (.int .u16 (f (i * C + j) : Nat)) = part16 f C i (j + 1) := by
  obtain ⟨m, hm⟩ : ∃ m, C - j = m + 1 := ⟨C - j - 1, by omega⟩
  unfold part16
  rw [hm, List.set_append_right _ _ (by simp), show C - (j + 1) = m by omega]
  simp [List.range_succ, zero16, List.replicate_succ]
theorem info_su16 : (Try.prog.info? 53).map (fun i => (i.zero, i.size, i.bytes)) = some (some (.slice none 0 0), 1, 24) := by kernel_rfl
theorem info_entry : (Try.prog.info? 88).map (fun i => (i.zero, i.size, i.bytes)) = some (some (.agg #[.int .i64 0, .int .i64 0, .int .i64 0, .int .i64 0]), 4, 32) := by kernel_rfl
theorem info_u16m : (Try.prog.info? 157).map (fun i => (i.zero, i.size, i.bytes)) = some (some (.int .u16 0), 1, 2) := by kernel_rfl
theorem ent16_lt (sb : List UInt8) (i : Nat) : ent16 sb i ≤ 65535 := num2_lt sb (2 * i)
end Go.Proofs.Ytaladlaffglkeaa
end
