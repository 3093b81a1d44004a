
/- PairTakes returns true for every bytes and every kind, and changes nothing: whoever takes a subtable of a View of bytes has the distances that are read of them, or it is thrown, just where there is none, or the kind is another one. No condition beside the row's own. -/
import Derived.Test.YtbicnkopmamnpaaJ15
import Derived.Test.YtbicnkopmamnpaaJ01
import Derived.Test.YtbicnkopmamnpaaJ03
namespace Go.Proofs.Ytbicnkopmamnpaa
open Go.RowKit Go.Lib

theorem enter_pt1 (args : Array Value) (w : World) : (callFunc 60 args).run Try.prog w = .ok (.enter 60 args) w := by kernel_rfl
set_option maxRecDepth 100000 in
set_option maxHeartbeats 1600000 in
theorem pt1_any (L B : Nat) (a : Option Addr) (n c : Nat) (bs : List UInt8) (kind : Int) (g0 g1 g3 : Nat) (x : Value) (w : World) (h : FarH (spA L) a bs w) (hl : bs.length = n) (hn : n ≤ c) (hc : c ≤ maxLen) (hB : B ≤ g3) (hL : L ≤ g3)
    (c0 : w.cell? ⟨g0, 0, none⟩ = some (.int .i64 kind)) (c1 : w.cell? ⟨g1, 0, none⟩ = some (.slice a n c))
    (c3 : w.heap[g3]? = some (.cells #[x] 100 (0, 0))) :
    Calls Try.prog 60 #[.pointer (some ⟨g0, 0, none⟩), .pointer (some ⟨g1, 0, none⟩), .pointer (some ⟨g3, 0, none⟩)] w
      fun e w' => (e = .returned (.tuple #[]) ∧ PRead1R (spA L) B w g3 bs kind 20 true w') ∨ (e = .panicked thrown ∧ PRead1R (spA L) B w g3 bs kind 20 false w') := by
  have HH := Lib.hid h
  have HL := Lib.hid hl
  have C3 := Lib.hid c3
  have l0 := cell_lt c0
  have l1 := cell_lt c1
  have l3 := (Array.getElem?_eq_some_iff.1 c3).1
  simp only at l0 l1
  clear h hl c3
  by_cases hok : ∃ r1 r2, PrOk bs kind 20 r1 r2
  · have HT := Lib.hid (fun W (hW : Below w.heap.size w W) => (ptake_any (spA L) a n c bs kind 20 20 rfl W (HH.out.below hW) HL.out hn hc (by decide) (by decide)).mono (R' := fun e w' => ∃ r1 r2 gx, PrOk bs kind 20 r1 r2 ∧ e = .returned (.pointer (some ⟨gx, 0, none⟩)) ∧ PrIs (spA L) W.heap.size gx bs kind r1 r2 w' ∧ Below W.heap.size W w') (by
      rintro e w' ⟨(⟨r1, r2, gx, h1, h2, h3, _⟩ | ⟨hno, _⟩), hb⟩
      · exact ⟨r1, r2, gx, h1, h2, h3, hb⟩
      · obtain ⟨r1, r2, h⟩ := hok
        exact absurd h (hno r1 r2)))
    clear hok
    go_enter Try.func60, Try.ntmps60
    go_wp2_with fail
    refine wp_region_last (.step 0 (.step 1 (.step 2 (.step 3 (.step 4 .nil))))) 4 (by kernel_rfl) (by kernel_rfl) (by kernel_rfl) (by kernel_rfl) (by kernel_rfl) (by intro _ _ d_ _ _ h_; cases d_ <;> first | exact h_ | (dsimp +zetaDelta only at h_ ⊢; exact h_)) (fun w' => ∃ p : Wld w [], w' = p.val) (wld_start _ _) ?_
    have hG_ := @wldC w
    (refine z_quiet gtA (by rfl) (by rfl) (fun K_ hK_ => ?_); go_big_quiet_op; refine hK_ _ ?_; clear hK_ K_)
    (refine z_quiet gtA (by rfl) (by rfl) (fun K_ hK_ => ?_); go_big_quiet_op; refine hK_ _ ?_; clear hK_ K_)
    (refine z_run gtA (by rfl) (by rfl) (fun K_ hK_ => ?_); have HK_ := Lib.hid hK_; clear hK_; go_wp2_with (first | (go_at_call 62; (with_reducible refine (of_any _ _ _ _).mono ?_); rintro e wa ⟨rfl, hba⟩; have hac := bc hba; have haf := bf hba; have haz := hba.size; try simp only [World.size_alloc, World.size_drew] at haz) | (go_at_call 61; (with_reducible refine (HT.out _ (by exact blw)).mono ?_); rintro e wb ⟨r1, r2, g, hok, rfl, hown, hbb⟩; have hbz := hbb.size; have HOW := Lib.hid hown; have HOK := Lib.hid hok; have hB4 : Below w.heap.size w wb := blw; have c4b := (hB4.block g3 l3).trans C3.out; have q4 := cell_of_heap c4b 0; have f4 := froz_of_heap c4b 0; have l4 := (Array.getElem?_eq_some_iff.1 c4b).1; have HC4 := Lib.hid c4b; have HBB := Lib.hid hB4; clear hown hbb hB4 c4b hok)); refine HK_.out _ _ (wld_ofA) ?_; clear HK_)
    (refine z_run gtA (by rfl) (by rfl) (fun K_ hK_ => ?_); have HK_ := Lib.hid hK_; clear hK_; go_wp2_with (first | (go_at_call 62; (with_reducible refine (of_any _ _ _ _).mono ?_); rintro e wa ⟨rfl, hba⟩; have hac := bc hba; have haf := bf hba; have haz := hba.size; try simp only [World.size_alloc, World.size_drew] at haz) | (go_at_call 61; (with_reducible refine (HT.out _ (by exact blw)).mono ?_); rintro e wb ⟨r1, r2, g, hok, rfl, hown, hbb⟩; have hbz := hbb.size; have HOW := Lib.hid hown; have HOK := Lib.hid hok; have hB4 : Below w.heap.size w wb := blw; have c4b := (hB4.block g3 l3).trans C3.out; have q4 := cell_of_heap c4b 0; have f4 := froz_of_heap c4b 0; have l4 := (Array.getElem?_eq_some_iff.1 c4b).1; have HC4 := Lib.hid c4b; have HBB := Lib.hid hB4; clear hown hbb hB4 c4b hok)); refine HK_.out _ _ (wld_ofA) ?_; clear HK_)
    (refine z_last gtA (by rfl) (by rfl) (by rfl) (fun K_ hK_ => ?_); have HK_ := Lib.hid hK_; clear hK_; go_wp2_with (first | (go_at_call 62; (with_reducible refine (of_any _ _ _ _).mono ?_); rintro e wa ⟨rfl, hba⟩; have hac := bc hba; have haf := bf hba; have haz := hba.size; try simp only [World.size_alloc, World.size_drew] at haz) | (go_at_call 61; (with_reducible refine (HT.out _ (by exact blw)).mono ?_); rintro e wb ⟨r1, r2, g, hok, rfl, hown, hbb⟩; have hbz := hbb.size; have HOW := Lib.hid hown; have HOK := Lib.hid hok; have hB4 : Below w.heap.size w wb := blw; have c4b := (hB4.block g3 l3).trans C3.out; have q4 := cell_of_heap c4b 0; have f4 := froz_of_heap c4b 0; have l4 := (Array.getElem?_eq_some_iff.1 c4b).1; have HC4 := Lib.hid c4b; have HBB := Lib.hid hB4; clear hown hbb hB4 c4b hok)); refine HK_.out _ _ ?_; clear HK_)
    refine z_nil ?_
    clear hG_
    go_end0
    refine .inl ⟨rfl, .inl ⟨rfl, r1, r2, g, HOK.out, set_heap_at _ HC4.out, ?_, (HBB.out.mono (Nat.le_of_lt (by omega))).setCell (p := ⟨g3, 0, none⟩) hB _, by have := HBB.out.size; simpa using this⟩⟩
    have := (HOW.out.setT (o := 0) HC4.out (by decide) (by decide) (by decide) (by decide) (by decide) hL (.pointer (some ⟨g, 0, none⟩))).mono (fun _ _ h => h) (show w.heap.size ≤ _ by first | exact Nat.le_refl _ | omega | (simp; omega))
    exact this
  · have HNO := Lib.hid (show ∀ r1 r2, ¬ PrOk bs kind 20 r1 r2 from fun r1 r2 ho => hok ⟨r1, r2, ho⟩)
    have HT := Lib.hid (fun W (hW : Below w.heap.size w W) => (ptake_any (spA L) a n c bs kind 20 20 rfl W (HH.out.below hW) HL.out hn hc (by decide) (by decide)).mono (R' := fun e w' => e = .panicked thrown ∧ Below W.heap.size W w') (by
      rintro e w' ⟨(⟨r1, r2, gx, h1, _⟩ | ⟨_, he⟩), hb⟩
      · exact absurd h1 (HNO.out r1 r2)
      · exact ⟨he, hb⟩))
    clear hok
    go_enter Try.func60, Try.ntmps60
    go_wp2_with fail
    refine wp_region_tree (.step 0 (.step 1 (.step 2 (.step 3 (.step 4 .nil))))) (by kernel_rfl) (by kernel_rfl) (by kernel_rfl) (by kernel_rfl) (by intro _ _ d_ _ _ h_; cases d_ <;> first | exact h_ | (dsimp +zetaDelta only at h_ ⊢; exact h_)) (fun w' => ∃ p : BelW w.heap.size w, w' = p.val) (bel_start _ _) ?_
    have hG_ := @belC w.heap.size w
    (refine tree_quiet gtA (by rfl) (by rfl) (fun K_ hK_ => ?_); go_big_quiet_op; refine hK_ _ ?_; clear hK_ K_)
    (refine tree_quiet gtA (by rfl) (by rfl) (fun K_ hK_ => ?_); go_big_quiet_op; refine hK_ _ ?_; clear hK_ K_)
    (refine tree_run gtA (by rfl) (by rfl) (fun K_ hK_ => ?_); have HK_ := Lib.hid hK_; clear hK_; go_wp2_with (first | (go_at_call 62; (with_reducible refine (of_any _ _ _ _).mono ?_); rintro e wa ⟨rfl, hba⟩; have hac := bc hba; have haf := bf hba; have haz := hba.size; try simp only [World.size_alloc, World.size_drew] at haz) | (go_at_call 61; (with_reducible refine (HT.out _ (by exact blw)).mono ?_); rintro e wb ⟨rfl, hbb⟩; have hbc := bc hbb; have hbf := bf hbb; have hbz := hbb.size; try simp only [World.size_alloc, World.size_drew] at hbz)); refine HK_.out _ _ (bel_ofA) ?_; clear HK_)
    (refine tree_run gtA (by rfl) (by rfl) (fun K_ hK_ => ?_); have HK_ := Lib.hid hK_; clear hK_; go_wp2_with (first | (go_at_call 62; (with_reducible refine (of_any _ _ _ _).mono ?_); rintro e wa ⟨rfl, hba⟩; have hac := bc hba; have haf := bf hba; have haz := hba.size; try simp only [World.size_alloc, World.size_drew] at haz) | (go_at_call 61; (with_reducible refine (HT.out _ (by exact blw)).mono ?_); rintro e wb ⟨rfl, hbb⟩; have hbc := bc hbb; have hbf := bf hbb; have hbz := hbb.size; try simp only [World.size_alloc, World.size_drew] at hbz)); exact ⟨rfl, .inr ⟨rfl, .inr ⟨rfl, HNO.out, by repeat (first | exact Below.refl _ _ | assumption | refine bdrew1q ?_ | refine balloc ?_ _ | refine bthen ?_ (by assumption) | refine Below.trans ?_ (by assumption))⟩⟩⟩)
set_option maxRecDepth 100000 in
set_option maxHeartbeats 6400000 in
theorem pairTakes_walk (a : Option Addr) (n c : Nat) (bs : List UInt8) (kind : Int) (w : World) (h : Has w a (bytesV bs)) (hl : bs.length = n) (hn : n ≤ c) (hc : c ≤ maxLen) :
    Calls Try.prog 14 #[.slice a n c, .int .i64 kind] w fun e w' => e = .returned (.bool true) ∧ Below w.heap.size w w' := by
  have hAC := allocC
  have hAF := allocF
  have hmf : ∀ (fn : Fn) (first cap : Array Value) (w : World), (Instr.makeFunc fn first cap).run Try.prog w = .ok (.func fn first cap) w := fun _ _ _ _ => rfl
  have HSP := Lib.hid (fun W => speaks22_any W)
  have HH := Lib.hid (FarH.arg h (Nat.le_refl _))
  have HL := Lib.hid hl
  clear h hl
  obtain ⟨A, hA⟩ : ∃ A, A = (w.alloc (Obj.cells #[.slice a n c] 22)).alloc (Obj.cells #[.int .i64 kind] 3) := ⟨_, rfl⟩
  have hbA : Below w.heap.size w A := by rw [hA]; exact balloc (balloc (brefl w) _) _
  have x2 : A.heap[w.heap.size]? = some (.cells #[.slice a n c] 22 (0, 0)) := by rw [hA, heap_push, if_neg (by simp), heap_push, if_pos rfl]
  have x3 : A.heap[w.heap.size + 1]? = some (.cells #[.int .i64 kind] 3 (0, 0)) := by rw [hA, heap_push, if_pos (by simp)]
  have X2 := Lib.hid x2
  have X3 := Lib.hid x3
  have HBA := Lib.hid hbA
  have l2 := (Array.getElem?_eq_some_iff.1 x2).1
  have l3 := (Array.getElem?_eq_some_iff.1 x3).1
  clear x2 x3 hbA
  go_enter Try.func14, Try.ntmps14
  go_wp2_with fail
  rw [← hA]
  clear hA
  refine (HSP.out A).mono ?_
  rintro e w1 ⟨rfl, hb1⟩
  have HB1 := Lib.hid (HBA.out.trans (hb1.mono HBA.out.size))
  have Y2 := Lib.hid ((hb1.block _ l2).trans X2.out)
  have Y3 := Lib.hid ((hb1.block _ l3).trans X3.out)
  have q2 := cell_of_heap Y2.out 0
  have q3 := cell_of_heap Y3.out 0
  simp only [List.getElem?_toArray, List.getElem?_cons_zero] at q2 q3
  have m2 := (Array.getElem?_eq_some_iff.1 Y2.out).1
  have m3 := (Array.getElem?_eq_some_iff.1 Y3.out).1
  clear hb1
  by_cases hbig : 600 < n
  · have d1 : decide (600 < (n : Int)) = true := by simp; omega
    go_wp2_with fail
    go_ret
    exact ⟨rfl, HB1.out⟩
  have d1 : decide (600 < (n : Int)) = false := by simp; omega
  obtain ⟨W, hW⟩ : ∃ W, W = w1.alloc (Obj.cells #[.pointer none] 100) := ⟨_, rfl⟩
  have hbW : Below w1.heap.size w1 W := by rw [hW]; exact balloc (brefl _) _
  have c5 : W.heap[w1.heap.size]? = some (.cells #[.pointer none] 100 (0, 0)) := by rw [hW]; exact (heap_push _ _ _).trans (if_pos rfl)
  have Z2 := Lib.hid ((hbW.block _ m2).trans Y2.out)
  have Z3 := Lib.hid ((hbW.block _ m3).trans Y3.out)
  have HBW := Lib.hid (HB1.out.trans (hbW.mono HB1.out.size))
  have C5 := Lib.hid c5
  have l5 := (Array.getElem?_eq_some_iff.1 c5).1
  have hw1w := HB1.out.size
  have HT := Lib.hid (try_any 60 _ W (PRead1R (spA w.heap.size) w1.heap.size W w1.heap.size bs kind 20) (enter_pt1 _)
    (pt1_any w.heap.size w1.heap.size a n c bs kind _ _ _ _ _ (HH.out.below HBW.out) HL.out hn hc (Nat.le_refl _) hw1w (cell_of_heap Z3.out 0) (cell_of_heap Z2.out 0) C5.out))
  clear hbW c5
  go_wp2_with fail
  rw [← hW]
  clear hW
  refine HT.out.mono ?_
  rintro r w2 ⟨ok, rfl, (⟨rfl, r1, r2, g, hok, hG, htb, hb2, hz2⟩ | ⟨rfl, hno, hb2⟩)⟩
  case inr =>
    have HNO := Lib.hid hno
    have HB2 := Lib.hid (HBW.out.trans (hb2.mono HBW.out.size))
    have V2 := Lib.hid ((hb2.block _ (Array.getElem?_eq_some_iff.1 Z2.out).1).trans Z2.out)
    have V3 := Lib.hid ((hb2.block _ (Array.getElem?_eq_some_iff.1 Z3.out).1).trans Z3.out)
    have V5 := Lib.hid ((hb2.block _ l5).trans C5.out)
    have q2 := cell_of_heap V2.out 0
    have q3 := cell_of_heap V3.out 0
    have q5 := cell_of_heap V5.out 0
    simp only [List.getElem?_toArray, List.getElem?_cons_zero] at q2 q3 q5
    have k2 := (Array.getElem?_eq_some_iff.1 V2.out).1
    have k3 := (Array.getElem?_eq_some_iff.1 V3.out).1
    have k5 := (Array.getElem?_eq_some_iff.1 V5.out).1
    have HRD := Lib.hid (pread_any kind a n c bs 20 w2 ((HH.out.has).below HB2.out) HL.out (by omega))
    have h3 := eqPnn
    clear hno hb2 HT
    go_wp2_with fail
    refine HRD.out.mono ?_
    rintro e w3 ⟨hres, hb3⟩
    have HB3 := Lib.hid (HB2.out.trans (hb3.mono HB2.out.size))
    have q5 := (hb3.cell (p := ⟨w1.heap.size, 0, none⟩) k5).trans q5
    have k5 := Nat.lt_of_lt_of_le k5 hb3.size
    clear hb3
    rcases hres with ⟨hbad, rfl⟩ | ⟨_, _, rfl⟩ | ⟨_, r1, r2, g, hok, _⟩
    · go_wp2_with fail
      go_loopw [9] (fun i wr => i = .int .i64 (-1) ∧ Below w3.heap.size w3 wr) (fun _ _ => 0)
      case atStart => exact ⟨rfl, brefl _⟩
      case round =>
        obtain ⟨rfl, hb⟩ := hrel
        have HB := Lib.hid hb
        go_wp2_with fail
        go_ret
        exact ⟨rfl, HB3.out.trans (HB.out.mono HB3.out.size)⟩
    · go_wp2_with fail
      go_loopw [9] (fun i wr => i = .int .i64 (-1) ∧ Below w3.heap.size w3 wr) (fun _ _ => 0)
      case atStart => exact ⟨rfl, brefl _⟩
      case round =>
        obtain ⟨rfl, hb⟩ := hrel
        have HB := Lib.hid hb
        go_wp2_with fail
        go_ret
        exact ⟨rfl, HB3.out.trans (HB.out.mono HB3.out.size)⟩
    · exact absurd hok (HNO.out r1 r2)
  have HOK := Lib.hid hok
  have HB2 := Lib.hid (HBW.out.trans (hb2.mono hw1w))
  have V2 := Lib.hid ((hb2.block _ m2).trans Z2.out)
  have V3 := Lib.hid ((hb2.block _ m3).trans Z3.out)
  have q2 := cell_of_heap V2.out 0
  have q3 := cell_of_heap V3.out 0
  have q5 := cell_of_heap hG 0
  simp only [List.getElem?_toArray, List.getElem?_cons_zero] at q2 q3 q5
  have k2 := (Array.getElem?_eq_some_iff.1 V2.out).1
  have k3 := (Array.getElem?_eq_some_iff.1 V3.out).1
  have k5 := (Array.getElem?_eq_some_iff.1 hG).1
  have HRD := Lib.hid (pread_any kind a n c bs 20 w2 ((HH.out.has).below HB2.out) HL.out (by omega))
  have HTB := Lib.hid htb
  have HG := Lib.hid hG
  have h3 := eqPtn
  clear hok hb2 HT htb hG hz2
  go_wp2_with fail
  refine HRD.out.mono ?_
  rintro e w3 ⟨hres, hb3⟩
  have HB3 := Lib.hid (HB2.out.trans (hb3.mono HB2.out.size))
  have q5 := (hb3.cell (p := ⟨w1.heap.size, 0, none⟩) k5).trans q5
  have H5 := Lib.hid ((hb3.block _ k5).trans HG.out)
  have HT3 := Lib.hid (HTB.out.below hb3)
  have k5 := Nat.lt_of_lt_of_le k5 hb3.size
  clear hb3
  rcases hres with ⟨hbad, _⟩ | ⟨_, hno, _⟩ | ⟨_, r3, r4, g', hok', rfl, hp⟩
  · exact absurd HOK.out (by
      intro ho
      unfold badP at hbad
      rcases ho with ⟨h, _⟩ | ⟨h, _⟩ | ⟨h, _⟩ <;> omega)
  · exact absurd HOK.out (hno r1 r2)
  obtain ⟨rfl, rfl⟩ := HOK.out.det hok'
  have HP := Lib.hid hp
  clear hok' hp
  have HGA := Lib.hid (fun (x y : Int) hx hy (X : World) (hX : Below w3.heap.size w3 X) => pget_any _ _ g bs kind 20 r1 r2 x y X (HT3.out.below hX) HOK.out (by decide) hx hy)
  have HGB := Lib.hid (fun (x y : Int) hx hy (X : World) (hX : Below w3.heap.size w3 X) => pget_any _ _ g' bs kind 20 r1 r2 x y X (HP.out.below hX) HOK.out (by decide) hx hy)
  go_wp2_with fail
  go_loopw [9] (fun i wr => ∃ j : Nat, j ≤ 13 ∧ i = .int .i64 ((j : Int) - 1) ∧ Below w3.heap.size w3 wr) (fun i _ => (12 - Go.RowKit.intOf i).toNat)
  case atStart => exact ⟨0, by decide, rfl, brefl _⟩
  case round =>
    obtain ⟨j, hj, rfl, hb⟩ := hrel
    rename World => wr
    have HB := Lib.hid hb
    have hzr := hb.size
    clear hb
    by_cases hlt : j < 13
    · have d2 : decide ((j : Int) - 1 < 12) = true := by simp; omega
      go_wp2_with fail
      go_loopw [10] (fun i wq => ∃ k : Nat, k ≤ 13 ∧ i = .int .i64 ((k : Int) - 1) ∧ Below w3.heap.size w3 wq) (fun i _ => (12 - Go.RowKit.intOf i).toNat)
      case atStart => exact ⟨0, by decide, rfl, HB.out⟩
      case round =>
        obtain ⟨k, hk, rfl, hbq⟩ := hrel
        rename World => wq
        have HBQ := Lib.hid hbq
        have r5 := (hbq.cell (p := ⟨w1.heap.size, 0, none⟩) k5).trans q5
        have t5 := Nat.lt_of_lt_of_le k5 hbq.size
        clear hbq
        by_cases hlk : k < 13
        · have d3 : decide ((k : Int) - 1 < 12) = true := by simp; omega
          go_wp2_with (first
            | (go_at_call 55; (with_reducible refine (HGA.out _ _ (by omega) (by omega) _ HBQ.out).mono ?_); rintro e w8 ⟨rfl, hb8⟩; have HB8 := Lib.hid (HBQ.out.trans (hb8.mono HBQ.out.size)); clear hb8)
            | (go_at_call 55; (with_reducible refine (HGB.out _ _ (by omega) (by omega) _ HB8.out).mono ?_); rintro e w9 ⟨rfl, hb9⟩; have HB9 := Lib.hid (HB8.out.trans (hb9.mono HB8.out.size)); clear hb9))
          go_roundw
          case rel => exact ⟨k + 1, hlk, by first | (congr 1; omega) | go_num, HB9.out⟩
          case measure => simp [Go.RowKit.intOf]; omega
        · have d3 : decide ((k : Int) - 1 < 12) = false := by simp; omega
          go_wp2_with fail
          go_roundw
          case rel => exact ⟨j + 1, hlt, by first | (congr 1; omega) | go_num, HBQ.out⟩
          case measure => simp [Go.RowKit.intOf]; omega
    · have d2 : decide ((j : Int) - 1 < 12) = false := by simp; omega
      go_wp2_with fail
      go_ret
      exact ⟨rfl, HB3.out.trans (HB.out.mono HB3.out.size)⟩

open Go.ChangeShapes Go.WideShapes Go.ChangeAt Go.RowKit
open Go.ChangeMaps (open_string shut_string)

set_option maxRecDepth 100000 in
theorem pairTakes_walks (H : Type) (enc : TypeId × Value → H) : Walks H enc 14 [22, 3] := by
  intro W base args ds p hval hA _
  obtain ⟨v0, vs0, d0, ds0, p0, q0, hargs, rfl, rfl, h0, r0⟩ := trodAll_cons hA
  obtain ⟨v1, vs1, d1, ds1, p1, q1, rfl, rfl, rfl, h1, r1⟩ := trodAll_cons r0
  obtain ⟨rfl, rfl, rfl⟩ := trodAll_nil r1
  obtain rfl : args = #[v0, v1] := by cases args; simp_all
  obtain ⟨a0, n0, c0, x0, rfl, e0, f0, g0, j0, k0⟩ := open_bytes Try.underlying22 Try.underlying5 (by kernel_rfl) (hval 0 22 v0 rfl rfl) h0
  obtain ⟨kind, rfl, t1⟩ := open_int Try.underlying3 (hval 1 3 v1 rfl rfl) h1
  exact pairTakes_walk a0 n0 c0 x0 kind W e0 f0 g0 j0

set_option maxRecDepth 100000 in
theorem pairTakes_lifted (os : Os) (started : os.Started) (H : Type) (enc : TypeId × Value → H) :
    ReturnsInHanded {} Try.checked os 14 .any (Rows.pairTakesSpec.pre6 enc Try.prog Try.f14 Rows.pairTakesRow.domain false) (Rows.pairTakesSpec.post enc Try.prog Try.f14 false true false false) :=
  lift_law (s := Rows.pairTakesSpec) (fn := Try.f14) started (by kernel_rfl) Try.func14
    (ChangeSpec.witness6 (enc := enc) (C := Try.checked) false ⟨#[], #[.slice none 0 0, .int .i64 0], []⟩ 8 (by kernel_rfl) (by kernel_rfl) (by kernel_rfl) (by kernel_rfl))
    rfl rfl (fun ds h => by match ds, h with | [d0, d1], _ => rfl) (by intro t ht; simp [Try.params14] at ht; first | (subst ht; exact ⟨by kernel_rfl, of_decide_eq_true (by kernel_rfl)⟩) | (obtain rfl | rfl := ht <;> exact ⟨by kernel_rfl, of_decide_eq_true (by kernel_rfl)⟩) | (obtain rfl | rfl | rfl := ht <;> exact ⟨by kernel_rfl, of_decide_eq_true (by kernel_rfl)⟩) | (obtain rfl | rfl | rfl | rfl := ht <;> exact ⟨by kernel_rfl, of_decide_eq_true (by kernel_rfl)⟩))
    (by rw [Try.params14]; exact pairTakes_walks H enc)
theorem pairTakes_over : Rows.pairTakesRow.holds Try.pinned (OpenSpec.ofChange Rows.pairTakesSpec) :=
  OpenClaim.holds_of_wide 14 Try.f14 rfl rfl rfl rfl rfl rfl rfl ⟨rfl, rfl, rfl, rfl, rfl⟩ rfl rfl rfl rfl rfl (by kernel_rfl) Try.func14 (by kernel_rfl)
    (of_decide_eq_true (by kernel_rfl)) (by unfold Func.isWrapper; first | (rw [if_pos (by decide +kernel)]; kernel_rfl) | (rw [if_neg (by decide +kernel)]; exact ⟨rfl, rfl⟩))
    (fun os started H enc _ => pairTakes_lifted os started H enc)
theorem pairTakes_proved : Rows.PairTakesSaid := pairTakes_over
#print axioms pairTakes_proved
end Go.Proofs.Ytbicnkopmamnpaa
