
/- The walk of LookupTakes. Condition: as many bytes as the slice says; numbers within 64 bits. -/
import Derived.Test.YtajhljgcbafbcaaLSpeak
namespace Go.Proofs.Ytajhljgcbafbcaa
open Go.RowKit Go.Lib

theorem enter_ltakes1 (args : Array Value) (w : World) : (callFunc 26 args).run Try.prog w = .ok (.enter 26 args) w := by kernel_rfl
set_option maxRecDepth 100000 in
set_option maxHeartbeats 1600000 in
theorem ltakes1_any (B : Nat) (a : Option Addr) (n c : Nat) (bs : List UInt8) (glyphs size : Nat) (g0 g1 g3 : Nat) (x : Value) (w : World) (h : Has w a (bytesV bs)) (hl : bs.length = n) (hn : n ≤ c) (hc : c ≤ maxLen) (hg1 : 1 ≤ glyphs) (hg2 : glyphs ≤ 65535) (hS : size = 2 ∨ size = 4) (hB : B ≤ g3)
    (c0 : w.cell? ⟨g0, 0, none⟩ = some (.slice a n c)) (c1 : w.cell? ⟨g1, 0, none⟩ = some (.int .i64 (glyphs : Nat))) (c2 : w.cell? ⟨g1, 1, none⟩ = some (.int .i64 (size : Nat)))
    (c3 : w.heap[g3]? = some (.cells #[x] 24 (0, 0))) :
    Calls Try.prog 26 #[.pointer (some ⟨g0, 0, none⟩), .pointer (some ⟨g1, 0, none⟩), .pointer (some ⟨g3, 0, none⟩)] w
      fun e w' => (e = .returned (.tuple #[]) ∧ LRead1R B w g3 bs glyphs size true w') ∨ (e = .panicked thrown ∧ LRead1R B w g3 bs glyphs size false w') := by
  have HH := Lib.hid h
  have HL := Lib.hid hl
  have C3 := Lib.hid c3
  have l0 := cell_lt c0
  have l1 := cell_lt c1
  have l3 := (Array.getElem?_eq_some_iff.1 c3).1
  simp only at l0 l1
  have HS := Lib.hid hS
  clear h hl c3 hS
  by_cases hok : ∃ rs, LkOk bs glyphs size rs
  · obtain ⟨rs, hok⟩ := hok
    have HOK := Lib.hid hok
    have HT := Lib.hid (fun W hw => take_ok a n c bs glyphs size rs W hw HL.out hn hc hg1 hg2 HS.out hok)
    clear hok
    go_enter Try.func26, Try.ntmps26
    go_wp2_with fail
    refine wp_region_last (.step 0 (.step 2 (.step 3 (.step 4 (.step 5 (.step 1 (.step 6 (.step 7 .nil)))))))) 7 (by kernel_rfl) (by kernel_rfl) (by kernel_rfl) (by kernel_rfl) (by kernel_rfl) (by intro _ _ d_ _ _ h_; cases d_ <;> first | exact h_ | (dsimp +zetaDelta only at h_ ⊢; exact h_)) (fun w' => ∃ p : Wld w [], w' = p.val) (wld_start _ _) ?_
    have hG_ := @wldC w
    (refine z_quiet (by simp only [List.getElem?_toArray, List.getElem?_cons_succ, List.getElem?_cons_zero]; rfl) (by rfl) (by rfl) (fun K_ hK_ => ?_); go_big_quiet_op; refine hK_ _ ?_; clear hK_ K_)
    (refine z_quiet (by simp only [List.getElem?_toArray, List.getElem?_cons_succ, List.getElem?_cons_zero]; rfl) (by rfl) (by rfl) (fun K_ hK_ => ?_); go_big_quiet_op; refine hK_ _ ?_; clear hK_ K_)
    (refine z_quiet (by simp only [List.getElem?_toArray, List.getElem?_cons_succ, List.getElem?_cons_zero]; rfl) (by rfl) (by rfl) (fun K_ hK_ => ?_); go_big_quiet_op; refine hK_ _ ?_; clear hK_ K_)
    (refine z_quiet (by simp only [List.getElem?_toArray, List.getElem?_cons_succ, List.getElem?_cons_zero]; rfl) (by rfl) (by rfl) (fun K_ hK_ => ?_); go_big_quiet_op; refine hK_ _ ?_; clear hK_ K_)
    (refine z_quiet (by simp only [List.getElem?_toArray, List.getElem?_cons_succ, List.getElem?_cons_zero]; rfl) (by rfl) (by rfl) (fun K_ hK_ => ?_); go_big_quiet_op; refine hK_ _ ?_; clear hK_ K_)
    (refine z_run (by simp only [List.getElem?_toArray, List.getElem?_cons_succ, List.getElem?_cons_zero]; rfl) (by rfl) (by rfl) (fun K_ hK_ => ?_); have HK_ := Lib.hid hK_; clear hK_; go_wp2_with (first | (go_at_call 28; (with_reducible refine (of_any _ _ _ _).mono ?_); rintro e wa ⟨rfl, hba⟩; have hac := bc hba; have haf := bf hba; have haz := hba.size; try simp only [World.size_alloc, World.size_drew] at haz) | (go_at_call 27; (with_reducible refine (HT.out _ (HH.out.below (by exact (by repeat (first | exact brefl _ | assumption | refine balloc ?_ _ | refine bdrew ?_ _ | refine bdrew1 ?_ | refine bthen ?_ (by assumption) | refine Below.trans ?_ (by assumption) | (refine bset ?_ (by first | (simp; done) | (simp; omega)) _)))))).mono ?_); rintro e wb ⟨g, rfl, hown, hbb⟩; have hbz := hbb.size; have HOW := Lib.hid hown; have hB4 : Below w.heap.size w wb := (by repeat (first | exact brefl _ | assumption | refine balloc ?_ _ | refine bdrew ?_ _ | refine bdrew1 ?_ | refine bthen ?_ (by assumption) | refine Below.trans ?_ (by assumption) | (refine bset ?_ (by first | (simp; done) | (simp; omega)) _))); have c4b := (hB4.block g3 l3).trans C3.out; have q4 := cell_of_heap c4b 0; have f4 := froz_of_heap c4b 0; have HC4 := Lib.hid c4b; have HBB := Lib.hid hB4; clear hown hbb hB4 c4b)); refine HK_.out _ _ (wld_of (by repeat (first | exact same_below (brefl _) | exact same_realloc (by simp) | exact same_below (bdrew1 (brefl _)) | assumption | refine same_drew ?_ | refine same_then ?_ (by assumption) | refine same_alloc ?_ _ | (refine same_set ?_ (by first | (left; simp; done) | (right; simp; done) | (right; simp; omega)) _)))) ?_; clear HK_)
    (refine z_run (by simp only [List.getElem?_toArray, List.getElem?_cons_succ, List.getElem?_cons_zero]; rfl) (by rfl) (by rfl) (fun K_ hK_ => ?_); have HK_ := Lib.hid hK_; clear hK_; go_wp2_with (first | (go_at_call 28; (with_reducible refine (of_any _ _ _ _).mono ?_); rintro e wa ⟨rfl, hba⟩; have hac := bc hba; have haf := bf hba; have haz := hba.size; try simp only [World.size_alloc, World.size_drew] at haz) | (go_at_call 27; (with_reducible refine (HT.out _ (HH.out.below (by exact (by repeat (first | exact brefl _ | assumption | refine balloc ?_ _ | refine bdrew ?_ _ | refine bdrew1 ?_ | refine bthen ?_ (by assumption) | refine Below.trans ?_ (by assumption) | (refine bset ?_ (by first | (simp; done) | (simp; omega)) _)))))).mono ?_); rintro e wb ⟨g, rfl, hown, hbb⟩; have hbz := hbb.size; have HOW := Lib.hid hown; have hB4 : Below w.heap.size w wb := (by repeat (first | exact brefl _ | assumption | refine balloc ?_ _ | refine bdrew ?_ _ | refine bdrew1 ?_ | refine bthen ?_ (by assumption) | refine Below.trans ?_ (by assumption) | (refine bset ?_ (by first | (simp; done) | (simp; omega)) _))); have c4b := (hB4.block g3 l3).trans C3.out; have q4 := cell_of_heap c4b 0; have f4 := froz_of_heap c4b 0; have HC4 := Lib.hid c4b; have HBB := Lib.hid hB4; clear hown hbb hB4 c4b)); refine HK_.out _ _ (wld_of (by repeat (first | exact same_below (brefl _) | exact same_realloc (by simp) | exact same_below (bdrew1 (brefl _)) | assumption | refine same_drew ?_ | refine same_then ?_ (by assumption) | refine same_alloc ?_ _ | (refine same_set ?_ (by first | (left; simp; done) | (right; simp; done) | (right; simp; omega)) _)))) ?_; clear HK_)
    (refine z_last (by simp only [List.getElem?_toArray, List.getElem?_cons_succ, List.getElem?_cons_zero]; rfl) (by rfl) (by rfl) (by rfl) (fun K_ hK_ => ?_); have HK_ := Lib.hid hK_; clear hK_; go_wp2_with (first | (go_at_call 28; (with_reducible refine (of_any _ _ _ _).mono ?_); rintro e wa ⟨rfl, hba⟩; have hac := bc hba; have haf := bf hba; have haz := hba.size; try simp only [World.size_alloc, World.size_drew] at haz) | (go_at_call 27; (with_reducible refine (HT.out _ (HH.out.below (by exact (by repeat (first | exact brefl _ | assumption | refine balloc ?_ _ | refine bdrew ?_ _ | refine bdrew1 ?_ | refine bthen ?_ (by assumption) | refine Below.trans ?_ (by assumption) | (refine bset ?_ (by first | (simp; done) | (simp; omega)) _)))))).mono ?_); rintro e wb ⟨g, rfl, hown, hbb⟩; have hbz := hbb.size; have HOW := Lib.hid hown; have hB4 : Below w.heap.size w wb := (by repeat (first | exact brefl _ | assumption | refine balloc ?_ _ | refine bdrew ?_ _ | refine bdrew1 ?_ | refine bthen ?_ (by assumption) | refine Below.trans ?_ (by assumption) | (refine bset ?_ (by first | (simp; done) | (simp; omega)) _))); have c4b := (hB4.block g3 l3).trans C3.out; have q4 := cell_of_heap c4b 0; have f4 := froz_of_heap c4b 0; have HC4 := Lib.hid c4b; have HBB := Lib.hid hB4; clear hown hbb hB4 c4b)); refine HK_.out _ _ ?_; clear HK_)
    refine z_nil ?_
    clear hG_
    go_end0
    refine .inl ⟨rfl, .inl ⟨rfl, rs, g, HOK.out, set_heap_at _ HC4.out, ?_, (HBB.out.mono (Nat.le_of_lt (by omega))).setCell (p := ⟨g3, 0, none⟩) hB _, by simp; omega, fun k hk hx => (set_heap_other _ hx).trans (HBB.out.block k hk)⟩⟩
    have := (HOW.out.setOther (o := 0) HC4.out (by decide) (by decide) (by decide) (.pointer (some ⟨g, 0, none⟩)))
    obtain ⟨_, _, _, _, e0, e1, e2⟩ := this.is
    exact ⟨_, _, _, _, e0, owns_mono e1 (by omega), owns_mono e2 (by omega)⟩
  · have HNO := Lib.hid (show ∀ rs, ¬ LkOk bs glyphs size rs from fun rs ho => hok ⟨rs, ho⟩)
    have HT := Lib.hid (fun W hw => take_bad a n c bs glyphs size W hw HL.out hn hc hg1 hg2 HS.out HNO.out)
    clear hok
    go_enter Try.func26, Try.ntmps26
    go_wp2_with fail
    refine wp_region_tree (.step 0 (.step 2 (.step 3 (.step 4 (.step 5 (.step 1 (.step 6 (.step 7 .nil)))))))) (by kernel_rfl) (by kernel_rfl) (by kernel_rfl) (by kernel_rfl) (by intro _ _ d_ _ _ h_; cases d_ <;> first | exact h_ | (dsimp +zetaDelta only at h_ ⊢; exact h_)) (fun w' => ∃ p : BelW w.heap.size w, w' = p.val) (bel_start _ _) ?_
    have hG_ := @belC w.heap.size w
    (refine tree_quiet (by simp only [List.getElem?_toArray, List.getElem?_cons_succ, List.getElem?_cons_zero]; rfl) (by rfl) (by rfl) (fun K_ hK_ => ?_); go_big_quiet_op; refine hK_ _ ?_; clear hK_ K_)
    (refine tree_quiet (by simp only [List.getElem?_toArray, List.getElem?_cons_succ, List.getElem?_cons_zero]; rfl) (by rfl) (by rfl) (fun K_ hK_ => ?_); go_big_quiet_op; refine hK_ _ ?_; clear hK_ K_)
    (refine tree_quiet (by simp only [List.getElem?_toArray, List.getElem?_cons_succ, List.getElem?_cons_zero]; rfl) (by rfl) (by rfl) (fun K_ hK_ => ?_); go_big_quiet_op; refine hK_ _ ?_; clear hK_ K_)
    (refine tree_quiet (by simp only [List.getElem?_toArray, List.getElem?_cons_succ, List.getElem?_cons_zero]; rfl) (by rfl) (by rfl) (fun K_ hK_ => ?_); go_big_quiet_op; refine hK_ _ ?_; clear hK_ K_)
    (refine tree_quiet (by simp only [List.getElem?_toArray, List.getElem?_cons_succ, List.getElem?_cons_zero]; rfl) (by rfl) (by rfl) (fun K_ hK_ => ?_); go_big_quiet_op; refine hK_ _ ?_; clear hK_ K_)
    (refine tree_run (by simp only [List.getElem?_toArray, List.getElem?_cons_succ, List.getElem?_cons_zero]; rfl) (by rfl) (by rfl) (fun K_ hK_ => ?_); have HK_ := Lib.hid hK_; clear hK_; go_wp2_with (first | (go_at_call 28; (with_reducible refine (of_any _ _ _ _).mono ?_); rintro e wa ⟨rfl, hba⟩; have hac := bc hba; have haf := bf hba; have haz := hba.size; try simp only [World.size_alloc, World.size_drew] at haz) | (go_at_call 27; (with_reducible refine (HT.out _ (HH.out.below (by exact (by repeat (first | exact brefl _ | assumption | refine balloc ?_ _ | refine bdrew ?_ _ | refine bdrew1 ?_ | refine bthen ?_ (by assumption) | refine Below.trans ?_ (by assumption) | (refine bset ?_ (by first | (simp; done) | (simp; omega)) _)))))).mono ?_); rintro e wb ⟨rfl, hbb⟩; have hbc := bc hbb; have hbf := bf hbb; have hbz := hbb.size; try simp only [World.size_alloc, World.size_drew] at hbz)); refine HK_.out _ _ (bel_of (by repeat (first | exact Below.refl _ _ | assumption | refine bdrew1q ?_ | refine balloc ?_ _ | refine bthen ?_ (by assumption) | refine Below.trans ?_ (by assumption)))) ?_; clear HK_)
    (refine tree_run (by simp only [List.getElem?_toArray, List.getElem?_cons_succ, List.getElem?_cons_zero]; rfl) (by rfl) (by rfl) (fun K_ hK_ => ?_); have HK_ := Lib.hid hK_; clear hK_; go_wp2_with (first | (go_at_call 28; (with_reducible refine (of_any _ _ _ _).mono ?_); rintro e wa ⟨rfl, hba⟩; have hac := bc hba; have haf := bf hba; have haz := hba.size; try simp only [World.size_alloc, World.size_drew] at haz) | (go_at_call 27; (with_reducible refine (HT.out _ (HH.out.below (by exact (by repeat (first | exact brefl _ | assumption | refine balloc ?_ _ | refine bdrew ?_ _ | refine bdrew1 ?_ | refine bthen ?_ (by assumption) | refine Below.trans ?_ (by assumption) | (refine bset ?_ (by first | (simp; done) | (simp; omega)) _)))))).mono ?_); rintro e wb ⟨rfl, hbb⟩; have hbc := bc hbb; have hbf := bf hbb; have hbz := hbb.size; try simp only [World.size_alloc, World.size_drew] at hbz)); exact ⟨rfl, .inr ⟨rfl, .inr ⟨rfl, HNO.out, by repeat (first | exact Below.refl _ _ | assumption | refine bdrew1q ?_ | refine balloc ?_ _ | refine bthen ?_ (by assumption) | refine Below.trans ?_ (by assumption))⟩⟩⟩)
set_option maxRecDepth 100000 in
set_option maxHeartbeats 3200000 in
theorem lookupTakes_main2 (G : Nat) (hG1 : 1 ≤ G) (hG2 : G ≤ 65535) (a : Option Addr) (n c : Nat) (bs : List UInt8) (w : World) (h : Has w a (bytesV bs)) (hl : bs.length = n) (hn : n ≤ c) (hc : c ≤ maxLen) (hbig : n ≤ 1000) :
    Calls Try.prog 7 #[.slice a n c, .agg #[.int .i64 (G : Nat), .int .i64 2]] w fun e w' => e = .returned (.bool true) ∧ Below w.heap.size w w' := by
  have hAC := allocC
  have hAF := allocF
  have hmf : ∀ (fn : Fn) (first cap : Array Value) (w : World), (Instr.makeFunc fn first cap).run Try.prog w = .ok (.func fn first cap) w := fun _ _ _ _ => rfl
  have HH := Lib.hid h
  have HL := Lib.hid hl
  have d1 : decide (1000 < (n : Int)) = false := by simp; omega
  have d2 : decide ((G : Int) < 1) = false := by simp; omega
  have d3 : decide (65535 < (G : Int)) = false := by simp; omega
  clear h hl
  go_enter Try.func7, Try.ntmps7
  go_wp2_with (first | (go_at_call 15; refine (speaks6_any _).mono ?_; rintro e w1 ⟨rfl, hb1⟩; have h1c := bc hb1; have h1f := bf hb1; have h1z := hb1.size; try simp only [World.size_alloc, World.size_drew] at h1z))
  obtain ⟨W, hW⟩ : ∃ W, W = w1.alloc (Obj.cells #[.pointer none] 24) := ⟨_, rfl⟩
  have c0 : w1.heap[w.heap.size]? = some (.cells #[.slice a n c] 22 (0, 0)) := (hb1.block _ (by simp; omega)).trans (by rw [heap_push, if_neg (by simp), heap_push, if_pos rfl])
  have c1 : w1.heap[w.heap.size + 1]? = some (.cells #[.int .i64 (G : Nat), .int .i64 2] 51 (0, 0)) := (hb1.block _ (by simp)).trans (by rw [heap_push, if_pos (by simp)])
  have hbW : Below w1.heap.size w1 W := by rw [hW]; exact balloc (brefl _) _
  have hB1 := bthen (show Below w.heap.size w _ from (balloc (balloc (brefl w) _) _)) hb1
  have HBW := Lib.hid (hB1.trans (hbW.mono hB1.size))
  have e0 := (hbW.block _ (by omega)).trans c0
  have e1 := (hbW.block _ (by omega)).trans c1
  have e3 : W.heap[w1.heap.size]? = some (.cells #[.pointer none] 24 (0, 0)) := by rw [hW, heap_push, if_pos rfl]
  have HT := Lib.hid (try_any 26 _ W (LRead1R w.heap.size W w1.heap.size bs G 2) (enter_ltakes1 _)
    (ltakes1_any w.heap.size a n c bs G 2 _ _ _ _ _ (HH.out.below HBW.out) HL.out hn hc hG1 hG2 (by decide) (by omega) (cell_of_heap e0 0) (cell_of_heap e1 0) (cell_of_heap e1 1) e3))
  have E0 := Lib.hid e0
  have E1 := Lib.hid e1
  have E3 := Lib.hid e3
  have hzW : W.heap.size = w1.heap.size + 1 := by rw [hW]; simp
  rw [← hW]
  clear hW c0 c1 hbW hB1 e0 e1 e3 h1c h1f hb1
  obtain ⟨g5, hg5⟩ : ∃ g5, g5 = w1.heap.size := ⟨_, rfl⟩
  rw [← hg5] at HT E3 hzW h1z ⊢
  clear hg5
  refine HT.out.mono ?_
  clear HT
  rintro r w2 ⟨ok, rfl, (⟨rfl, rs, g, hok, hG, htb, hb2, hz2, hoth⟩ | ⟨rfl, hno, hb2⟩)⟩
  case inr =>
    have d0 := cell_of_heap ((hb2.block _ (by omega)).trans E0.out) 0
    have d4 := cell_of_heap ((hb2.block _ (by omega)).trans E1.out) 0
    have d5 := cell_of_heap ((hb2.block _ (by omega)).trans E1.out) 1
    have d6 := cell_of_heap ((hb2.block _ (by omega)).trans E3.out) 0
    simp only [List.getElem?_toArray, List.getElem?_cons_zero, List.getElem?_cons_succ] at d0 d4 d5 d6
    have HW2 := Lib.hid (HBW.out.trans (hb2.mono HBW.out.size))
    have hl5 := cell_lt d6
    simp only at hl5
    have HRN := Lib.hid (lread_none a n c bs G 2 (G : Int) 2 rfl rfl w2 (HH.out.below HW2.out) HL.out hn hc hG1 hG2 (by decide) hno)
    clear hno hb2
    go_wp2_with (first | (go_at_call 16; (with_reducible refine HRN.out.mono ?_); rintro e w3 ⟨rfl, hb3⟩; have HB3 := Lib.hid hb3; have d7 := (hb3.cell (p := ⟨g5, 0, none⟩) hl5).trans d6; clear hb3 d6))
    go_ret
    exact ⟨rfl, HW2.out.trans (HB3.out.mono HW2.out.size)⟩
  have d0 := cell_of_heap ((hoth _ (by omega) (by omega)).trans E0.out) 0
  have d4 := cell_of_heap ((hoth _ (by omega) (by omega)).trans E1.out) 0
  have d5 := cell_of_heap ((hoth _ (by omega) (by omega)).trans E1.out) 1
  simp only [List.getElem?_toArray, List.getElem?_cons_zero, List.getElem?_cons_succ] at d0 d4 d5
  have HG5 := Lib.hid hG
  have HW2 := Lib.hid (HBW.out.trans (hb2.mono (Nat.le_refl _)))
  have HRS := Lib.hid (lread_some a n c bs G 2 (G : Int) 2 rfl rfl rs w2 (HH.out.below HW2.out) HL.out hn hc hG1 hG2 (by decide) hok)
  have HF := Lib.hid (hok.fit hG2 (by decide))
  have HTB := Lib.hid htb
  clear hok hG htb hb2 hoth
  generalize (tabR bs rs).1 = ps at *
  generalize (tabR bs rs).2 = ns at *
  generalize num bs 0 2 = fmt at *
  go_wp2_with fail
  refine HRS.out.mono ?_
  rintro e w3 ⟨g2, rfl, ht2, hb3⟩
  have HT1 := Lib.hid (HTB.out.below hb3)
  have HT2 := Lib.hid ht2
  have h53 := (hb3.block _ (Array.getElem?_eq_some_iff.1 HG5.out).1).trans HG5.out
  have q5 := cell_of_heap h53 0
  simp only [List.getElem?_toArray, List.getElem?_cons_zero] at q5
  have hl5 := cell_lt q5
  simp only at hl5
  have Q5 := Lib.hid q5
  have HB3 := Lib.hid (HW2.out.trans (hb3.mono HW2.out.size))
  clear h53 ht2 hb3 HRS HTB HG5 d0 d4 d5
  go_wp2_with fail
  clear q5
  go_loopw [9] (fun i wr => ∃ k : Nat, k ≤ 301 ∧ i = .int .i64 ((k : Int) - 1) ∧ Below w3.heap.size w3 wr) (fun i _ => (300 - intOf i).toNat)
  case atStart => exact ⟨0, by omega, by simp, brefl _⟩
  case round =>
    obtain ⟨k, hk, rfl, hbr⟩ := hrel
    have q5 := (hbr.cell (p := ⟨g5, 0, none⟩) hl5).trans Q5.out
    have hl6 : g5 < wr.heap.size := by have := hbr.size; omega
    have HBR := Lib.hid hbr
    have HBX := Lib.hid (HB3.out.trans (hbr.mono HB3.out.size))
    clear hbr
    by_cases hlt : k < 301
    · have HG1 := Lib.hid (fun (W : World) (hW : Below w3.heap.size w3 W) => get_fn _ g fmt ps ns ((k : Int) - 1) W (HT1.out.below hW) HF.out (by omega))
      have HG2 := Lib.hid (fun (W : World) (hW : Below w3.heap.size w3 W) => get_fn _ g2 fmt ps ns ((k : Int) - 1) W (HT2.out.below hW) HF.out (by omega))
      generalize hx : ((getL ps ns ((k : Int) - 1)).1 : Int) = x at *
      generalize hy : (getL ps ns ((k : Int) - 1)).2 = y at *
      clear hx hy
      have hlt3 : (k : Int) - 1 < 300 := by omega
      go_wp2_with fail
      refine (HG1.out _ HBR.out).mono ?_
      rintro e w4 ⟨rfl, hb4⟩
      have HB4 := Lib.hid (bthen HBR.out hb4)
      clear hb4 q5
      go_wp2_with fail
      refine (HG2.out _ HB4.out).mono ?_
      rintro e w5 ⟨rfl, hb5⟩
      have HB5 := Lib.hid (bthen HB4.out hb5)
      clear hb5
      cases y <;>
      · go_wp2_with fail
        go_roundw
        case rel => exact ⟨k + 1, by omega, by first | (congr 1; omega) | go_num | (congr 1; push_cast; omega), HB5.out⟩
        case measure => simp [intOf]; omega
    · have hge : ¬ (k : Int) - 1 < 300 := by omega
      have HM1 := Lib.hid (fun (W : World) (hW : Below w3.heap.size w3 W) => most_any _ g fmt ps ns W (HT1.out.below hW) HF.out)
      have HM2 := Lib.hid (fun (W : World) (hW : Below w3.heap.size w3 W) => most_any _ g2 fmt ps ns W (HT2.out.below hW) HF.out)
      have HF1 := Lib.hid (fun (W : World) (hW : Below w3.heap.size w3 W) => format_any _ g fmt ps ns W (HT1.out.below hW))
      have HF2 := Lib.hid (fun (W : World) (hW : Below w3.heap.size w3 W) => format_any _ g2 fmt ps ns W (HT2.out.below hW))
      generalize mostL (allL ns ps) = mm at *
      go_wp2_with fail
      refine (HM1.out _ HBR.out).mono ?_
      rintro e w4 ⟨rfl, hb4⟩
      have q6 := (hb4.cell (p := ⟨g5, 0, none⟩) hl6).trans q5
      have hl7 : g5 < w4.heap.size := by have := hb4.size; omega
      have HB4 := Lib.hid (bthen HBR.out hb4)
      clear hb4 q5
      go_wp2_with fail
      refine (HM2.out _ HB4.out).mono ?_
      rintro e w5 ⟨rfl, hb5⟩
      have q7 := (hb5.cell (p := ⟨g5, 0, none⟩) hl7).trans q6
      have HB5 := Lib.hid (bthen HB4.out hb5)
      clear hb5 q6
      go_wp2_with fail
      refine (HF1.out _ HB5.out).mono ?_
      rintro e w6 ⟨rfl, rfl⟩
      go_wp2_with fail
      refine (HF2.out _ HB5.out).mono ?_
      rintro e w7 ⟨rfl, rfl⟩
      go_wp2_with fail
      go_ret
      exact ⟨rfl, HB3.out.trans (HB5.out.mono HB3.out.size)⟩
set_option maxRecDepth 100000 in
set_option maxHeartbeats 3200000 in
theorem lookupTakes_main4 (G : Nat) (hG1 : 1 ≤ G) (hG2 : G ≤ 65535) (a : Option Addr) (n c : Nat) (bs : List UInt8) (w : World) (h : Has w a (bytesV bs)) (hl : bs.length = n) (hn : n ≤ c) (hc : c ≤ maxLen) (hbig : n ≤ 1000) :
    Calls Try.prog 7 #[.slice a n c, .agg #[.int .i64 (G : Nat), .int .i64 4]] w fun e w' => e = .returned (.bool true) ∧ Below w.heap.size w w' := by
  have hAC := allocC
  have hAF := allocF
  have hmf : ∀ (fn : Fn) (first cap : Array Value) (w : World), (Instr.makeFunc fn first cap).run Try.prog w = .ok (.func fn first cap) w := fun _ _ _ _ => rfl
  have HH := Lib.hid h
  have HL := Lib.hid hl
  have d1 : decide (1000 < (n : Int)) = false := by simp; omega
  have d2 : decide ((G : Int) < 1) = false := by simp; omega
  have d3 : decide (65535 < (G : Int)) = false := by simp; omega
  clear h hl
  go_enter Try.func7, Try.ntmps7
  go_wp2_with (first | (go_at_call 15; refine (speaks6_any _).mono ?_; rintro e w1 ⟨rfl, hb1⟩; have h1c := bc hb1; have h1f := bf hb1; have h1z := hb1.size; try simp only [World.size_alloc, World.size_drew] at h1z))
  obtain ⟨W, hW⟩ : ∃ W, W = w1.alloc (Obj.cells #[.pointer none] 24) := ⟨_, rfl⟩
  have c0 : w1.heap[w.heap.size]? = some (.cells #[.slice a n c] 22 (0, 0)) := (hb1.block _ (by simp; omega)).trans (by rw [heap_push, if_neg (by simp), heap_push, if_pos rfl])
  have c1 : w1.heap[w.heap.size + 1]? = some (.cells #[.int .i64 (G : Nat), .int .i64 4] 51 (0, 0)) := (hb1.block _ (by simp)).trans (by rw [heap_push, if_pos (by simp)])
  have hbW : Below w1.heap.size w1 W := by rw [hW]; exact balloc (brefl _) _
  have hB1 := bthen (show Below w.heap.size w _ from (balloc (balloc (brefl w) _) _)) hb1
  have HBW := Lib.hid (hB1.trans (hbW.mono hB1.size))
  have e0 := (hbW.block _ (by omega)).trans c0
  have e1 := (hbW.block _ (by omega)).trans c1
  have e3 : W.heap[w1.heap.size]? = some (.cells #[.pointer none] 24 (0, 0)) := by rw [hW, heap_push, if_pos rfl]
  have HT := Lib.hid (try_any 26 _ W (LRead1R w.heap.size W w1.heap.size bs G 4) (enter_ltakes1 _)
    (ltakes1_any w.heap.size a n c bs G 4 _ _ _ _ _ (HH.out.below HBW.out) HL.out hn hc hG1 hG2 (by decide) (by omega) (cell_of_heap e0 0) (cell_of_heap e1 0) (cell_of_heap e1 1) e3))
  have E0 := Lib.hid e0
  have E1 := Lib.hid e1
  have E3 := Lib.hid e3
  have hzW : W.heap.size = w1.heap.size + 1 := by rw [hW]; simp
  rw [← hW]
  clear hW c0 c1 hbW hB1 e0 e1 e3 h1c h1f hb1
  obtain ⟨g5, hg5⟩ : ∃ g5, g5 = w1.heap.size := ⟨_, rfl⟩
  rw [← hg5] at HT E3 hzW h1z ⊢
  clear hg5
  refine HT.out.mono ?_
  clear HT
  rintro r w2 ⟨ok, rfl, (⟨rfl, rs, g, hok, hG, htb, hb2, hz2, hoth⟩ | ⟨rfl, hno, hb2⟩)⟩
  case inr =>
    have d0 := cell_of_heap ((hb2.block _ (by omega)).trans E0.out) 0
    have d4 := cell_of_heap ((hb2.block _ (by omega)).trans E1.out) 0
    have d5 := cell_of_heap ((hb2.block _ (by omega)).trans E1.out) 1
    have d6 := cell_of_heap ((hb2.block _ (by omega)).trans E3.out) 0
    simp only [List.getElem?_toArray, List.getElem?_cons_zero, List.getElem?_cons_succ] at d0 d4 d5 d6
    have HW2 := Lib.hid (HBW.out.trans (hb2.mono HBW.out.size))
    have hl5 := cell_lt d6
    simp only at hl5
    have HRN := Lib.hid (lread_none a n c bs G 4 (G : Int) 4 rfl rfl w2 (HH.out.below HW2.out) HL.out hn hc hG1 hG2 (by decide) hno)
    clear hno hb2
    go_wp2_with (first | (go_at_call 16; (with_reducible refine HRN.out.mono ?_); rintro e w3 ⟨rfl, hb3⟩; have HB3 := Lib.hid hb3; have d7 := (hb3.cell (p := ⟨g5, 0, none⟩) hl5).trans d6; clear hb3 d6))
    go_ret
    exact ⟨rfl, HW2.out.trans (HB3.out.mono HW2.out.size)⟩
  have d0 := cell_of_heap ((hoth _ (by omega) (by omega)).trans E0.out) 0
  have d4 := cell_of_heap ((hoth _ (by omega) (by omega)).trans E1.out) 0
  have d5 := cell_of_heap ((hoth _ (by omega) (by omega)).trans E1.out) 1
  simp only [List.getElem?_toArray, List.getElem?_cons_zero, List.getElem?_cons_succ] at d0 d4 d5
  have HG5 := Lib.hid hG
  have HW2 := Lib.hid (HBW.out.trans (hb2.mono (Nat.le_refl _)))
  have HRS := Lib.hid (lread_some a n c bs G 4 (G : Int) 4 rfl rfl rs w2 (HH.out.below HW2.out) HL.out hn hc hG1 hG2 (by decide) hok)
  have HF := Lib.hid (hok.fit hG2 (by decide))
  have HTB := Lib.hid htb
  clear hok hG htb hb2 hoth
  generalize (tabR bs rs).1 = ps at *
  generalize (tabR bs rs).2 = ns at *
  generalize num bs 0 2 = fmt at *
  go_wp2_with fail
  refine HRS.out.mono ?_
  rintro e w3 ⟨g2, rfl, ht2, hb3⟩
  have HT1 := Lib.hid (HTB.out.below hb3)
  have HT2 := Lib.hid ht2
  have h53 := (hb3.block _ (Array.getElem?_eq_some_iff.1 HG5.out).1).trans HG5.out
  have q5 := cell_of_heap h53 0
  simp only [List.getElem?_toArray, List.getElem?_cons_zero] at q5
  have hl5 := cell_lt q5
  simp only at hl5
  have Q5 := Lib.hid q5
  have HB3 := Lib.hid (HW2.out.trans (hb3.mono HW2.out.size))
  clear h53 ht2 hb3 HRS HTB HG5 d0 d4 d5
  go_wp2_with fail
  clear q5
  go_loopw [9] (fun i wr => ∃ k : Nat, k ≤ 301 ∧ i = .int .i64 ((k : Int) - 1) ∧ Below w3.heap.size w3 wr) (fun i _ => (300 - intOf i).toNat)
  case atStart => exact ⟨0, by omega, by simp, brefl _⟩
  case round =>
    obtain ⟨k, hk, rfl, hbr⟩ := hrel
    have q5 := (hbr.cell (p := ⟨g5, 0, none⟩) hl5).trans Q5.out
    have hl6 : g5 < wr.heap.size := by have := hbr.size; omega
    have HBR := Lib.hid hbr
    have HBX := Lib.hid (HB3.out.trans (hbr.mono HB3.out.size))
    clear hbr
    by_cases hlt : k < 301
    · have HG1 := Lib.hid (fun (W : World) (hW : Below w3.heap.size w3 W) => get_fn _ g fmt ps ns ((k : Int) - 1) W (HT1.out.below hW) HF.out (by omega))
      have HG2 := Lib.hid (fun (W : World) (hW : Below w3.heap.size w3 W) => get_fn _ g2 fmt ps ns ((k : Int) - 1) W (HT2.out.below hW) HF.out (by omega))
      generalize hx : ((getL ps ns ((k : Int) - 1)).1 : Int) = x at *
      generalize hy : (getL ps ns ((k : Int) - 1)).2 = y at *
      clear hx hy
      have hlt3 : (k : Int) - 1 < 300 := by omega
      go_wp2_with fail
      refine (HG1.out _ HBR.out).mono ?_
      rintro e w4 ⟨rfl, hb4⟩
      have HB4 := Lib.hid (bthen HBR.out hb4)
      clear hb4 q5
      go_wp2_with fail
      refine (HG2.out _ HB4.out).mono ?_
      rintro e w5 ⟨rfl, hb5⟩
      have HB5 := Lib.hid (bthen HB4.out hb5)
      clear hb5
      cases y <;>
      · go_wp2_with fail
        go_roundw
        case rel => exact ⟨k + 1, by omega, by first | (congr 1; omega) | go_num | (congr 1; push_cast; omega), HB5.out⟩
        case measure => simp [intOf]; omega
    · have hge : ¬ (k : Int) - 1 < 300 := by omega
      have HM1 := Lib.hid (fun (W : World) (hW : Below w3.heap.size w3 W) => most_any _ g fmt ps ns W (HT1.out.below hW) HF.out)
      have HM2 := Lib.hid (fun (W : World) (hW : Below w3.heap.size w3 W) => most_any _ g2 fmt ps ns W (HT2.out.below hW) HF.out)
      have HF1 := Lib.hid (fun (W : World) (hW : Below w3.heap.size w3 W) => format_any _ g fmt ps ns W (HT1.out.below hW))
      have HF2 := Lib.hid (fun (W : World) (hW : Below w3.heap.size w3 W) => format_any _ g2 fmt ps ns W (HT2.out.below hW))
      generalize mostL (allL ns ps) = mm at *
      go_wp2_with fail
      refine (HM1.out _ HBR.out).mono ?_
      rintro e w4 ⟨rfl, hb4⟩
      have q6 := (hb4.cell (p := ⟨g5, 0, none⟩) hl6).trans q5
      have hl7 : g5 < w4.heap.size := by have := hb4.size; omega
      have HB4 := Lib.hid (bthen HBR.out hb4)
      clear hb4 q5
      go_wp2_with fail
      refine (HM2.out _ HB4.out).mono ?_
      rintro e w5 ⟨rfl, hb5⟩
      have q7 := (hb5.cell (p := ⟨g5, 0, none⟩) hl7).trans q6
      have HB5 := Lib.hid (bthen HB4.out hb5)
      clear hb5 q6
      go_wp2_with fail
      refine (HF1.out _ HB5.out).mono ?_
      rintro e w6 ⟨rfl, rfl⟩
      go_wp2_with fail
      refine (HF2.out _ HB5.out).mono ?_
      rintro e w7 ⟨rfl, rfl⟩
      go_wp2_with fail
      go_ret
      exact ⟨rfl, HB3.out.trans (HB5.out.mono HB3.out.size)⟩
set_option maxRecDepth 100000 in
set_option maxHeartbeats 3200000 in
theorem lookupTakes_walk (a : Option Addr) (n c : Nat) (bs : List UInt8) (zg zs : Int) (w : World) (h : Has w a (bytesV bs)) (hl : bs.length = n) (hn : n ≤ c) (hc : c ≤ maxLen) (hzg : -9223372036854775808 ≤ zg ∧ zg ≤ 9223372036854775807) (hzs : -9223372036854775808 ≤ zs ∧ zs ≤ 9223372036854775807) :
    Calls Try.prog 7 #[.slice a n c, .agg #[.int .i64 zg, .int .i64 zs]] w fun e w' => e = .returned (.bool true) ∧ Below w.heap.size w w' := by
  have hAC := allocC
  have hAF := allocF
  by_cases hbig : 1000 < n
  · clear h hl
    unfold maxLen at hc
    go_enter Try.func7, Try.ntmps7
    go_wp2_with (first | (go_at_call 15; refine (speaks6_any _).mono ?_; rintro e w1 ⟨rfl, hb1⟩; have h1c := bc hb1; have h1f := bf hb1; have h1z := hb1.size; try simp only [World.size_alloc, World.size_drew] at h1z))
    go_ret
    exact ⟨rfl, (by repeat (first | exact brefl _ | assumption | refine balloc ?_ _ | refine bdrew ?_ _ | refine bdrew1 ?_ | refine bthen ?_ (by assumption) | refine Below.trans ?_ (by assumption) | (refine bset ?_ (by first | (simp; done) | (simp; omega)) _)))⟩
  by_cases h1 : zg < 1
  · clear h hl
    go_enter Try.func7, Try.ntmps7
    go_wp2_with (first | (go_at_call 15; refine (speaks6_any _).mono ?_; rintro e w1 ⟨rfl, hb1⟩; have h1c := bc hb1; have h1f := bf hb1; have h1z := hb1.size; try simp only [World.size_alloc, World.size_drew] at h1z))
    go_ret
    exact ⟨rfl, (by repeat (first | exact brefl _ | assumption | refine balloc ?_ _ | refine bdrew ?_ _ | refine bdrew1 ?_ | refine bthen ?_ (by assumption) | refine Below.trans ?_ (by assumption) | (refine bset ?_ (by first | (simp; done) | (simp; omega)) _)))⟩
  by_cases h2 : 65535 < zg
  · clear h hl
    go_enter Try.func7, Try.ntmps7
    go_wp2_with (first | (go_at_call 15; refine (speaks6_any _).mono ?_; rintro e w1 ⟨rfl, hb1⟩; have h1c := bc hb1; have h1f := bf hb1; have h1z := hb1.size; try simp only [World.size_alloc, World.size_drew] at h1z))
    go_ret
    exact ⟨rfl, (by repeat (first | exact brefl _ | assumption | refine balloc ?_ _ | refine bdrew ?_ _ | refine bdrew1 ?_ | refine bthen ?_ (by assumption) | refine Below.trans ?_ (by assumption) | (refine bset ?_ (by first | (simp; done) | (simp; omega)) _)))⟩
  obtain ⟨G, rfl⟩ : ∃ G : Nat, zg = G := ⟨zg.toNat, by omega⟩
  by_cases hs2 : zs = 2
  · subst hs2; exact lookupTakes_main2 G (by omega) (by omega) a n c bs w h hl hn hc (by omega)
  by_cases hs4 : zs = 4
  · subst hs4; exact lookupTakes_main4 G (by omega) (by omega) a n c bs w h hl hn hc (by omega)
  have e2 : (zs != 2) = true := by rw [bne_iff_ne]; exact hs2
  have e4 : (zs != 4) = true := by rw [bne_iff_ne]; exact hs4
  clear h hl
  go_enter Try.func7, Try.ntmps7
  go_wp2_with (first | (go_at_call 15; refine (speaks6_any _).mono ?_; rintro e w1 ⟨rfl, hb1⟩; have h1c := bc hb1; have h1f := bf hb1; have h1z := hb1.size; try simp only [World.size_alloc, World.size_drew] at h1z))
  go_ret
  exact ⟨rfl, (by repeat (first | exact brefl _ | assumption | refine balloc ?_ _ | refine bdrew ?_ _ | refine bdrew1 ?_ | refine bthen ?_ (by assumption) | refine Below.trans ?_ (by assumption) | (refine bset ?_ (by first | (simp; done) | (simp; omega)) _)))⟩
end Go.Proofs.Ytajhljgcbafbcaa
