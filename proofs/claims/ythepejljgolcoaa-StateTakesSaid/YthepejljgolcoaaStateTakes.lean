
/- The walk of StateTakes. Condition: as many bytes as the slice says. StateTakes returns true for every bytes and every number of words, and changes nothing: whoever takes a machine of a View of bytes has the one that is read of them, or it is thrown, just where there is none. No condition beside the row's own. -/
import Derived.Test.YthepejljgolcoaaMSpeak
import Derived.Test.YthepejljgolcoaaFrame
namespace Go.Proofs.Ythepejljgolcoaa
open Go.RowKit Go.Lib

theorem enter_mt1 (args : Array Value) (w : World) : (callFunc 28 args).run Try.prog w = .ok (.enter 28 args) w := by kernel_rfl
set_option maxRecDepth 100000 in
set_option maxHeartbeats 1600000 in
theorem mt1_any (B : Nat) (a : Option Addr) (n c : Nat) (bs : List UInt8) (k : Nat) (g0 g2 g3 : Nat) (x : Value) (w : World) (h : Has w a (bytesV bs)) (hl : bs.length = n) (hn : n ≤ c) (hc : c ≤ maxLen) (hk : k ≤ 2) (hB : B ≤ g3)
    (c0 : w.cell? ⟨g0, 0, none⟩ = some (.slice a n c)) (c2 : w.cell? ⟨g2, 0, none⟩ = some (.int .i64 (k : Nat)))
    (c3 : w.heap[g3]? = some (.cells #[x] 42 (0, 0))) :
    Calls Try.prog 28 #[.pointer (some ⟨g0, 0, none⟩), .pointer (some ⟨g2, 0, none⟩), .pointer (some ⟨g3, 0, none⟩)] w
      fun e w' => (e = .returned (.tuple #[]) ∧ MRead1R B w g3 bs 30 k true w') ∨ (e = .panicked thrown ∧ MRead1R B w g3 bs 30 k false w') := by
  have HH := Lib.hid h
  have HL := Lib.hid hl
  have C3 := Lib.hid c3
  have l0 := cell_lt c0
  have l2 := cell_lt c2
  have l3 := (Array.getElem?_eq_some_iff.1 c3).1
  simp only at l0 l2
  clear h hl c3
  by_cases hok : ∃ rs S, MOk bs 30 k rs S
  · obtain ⟨rs, S, hok⟩ := hok
    have HOK := Lib.hid hok
    have HT := Lib.hid (fun W hw => show Calls Try.prog 29 #[.agg #[.slice a n c], .int .i64 30, .int .i64 (k : Nat)] W fun e w' => ∃ g, e = .returned (.pointer (some ⟨g, 0, none⟩)) ∧ MIs W.heap.size g bs k rs S w' ∧ Below W.heap.size W w' from mtake_ok a n c bs 30 k rs S W hw HL.out hn hc (by decide) (by decide) hk hok)
    clear hok
    go_enter Try.func28, Try.ntmps28
    go_wp2_with fail
    refine wp_region_last (.step 0 (.step 2 (.step 1 (.step 3 (.step 4 .nil))))) 4 (by kernel_rfl) (by kernel_rfl) (by kernel_rfl) (by kernel_rfl) (by kernel_rfl) (by intro _ _ d_ _ _ h_; cases d_ <;> first | exact h_ | (dsimp +zetaDelta only at h_ ⊢; exact h_)) (fun w' => ∃ p : Wld w [], w' = p.val) (wld_start _ _) ?_
    have hG_ := @wldC w
    (refine z_quiet (by simp only [List.getElem?_toArray, List.getElem?_cons_succ, List.getElem?_cons_zero]; rfl) (by rfl) (by rfl) (fun K_ hK_ => ?_); go_big_quiet_op; refine hK_ _ ?_; clear hK_ K_)
    (refine z_quiet (by simp only [List.getElem?_toArray, List.getElem?_cons_succ, List.getElem?_cons_zero]; rfl) (by rfl) (by rfl) (fun K_ hK_ => ?_); go_big_quiet_op; refine hK_ _ ?_; clear hK_ K_)
    (refine z_run (by simp only [List.getElem?_toArray, List.getElem?_cons_succ, List.getElem?_cons_zero]; rfl) (by rfl) (by rfl) (fun K_ hK_ => ?_); have HK_ := Lib.hid hK_; clear hK_; go_wp2_with (first | (go_at_call 30; (with_reducible refine (of_any _ _ _ _).mono ?_); rintro e wa ⟨rfl, hba⟩; have hac := bc hba; have haf := bf hba; have haz := hba.size; try simp only [World.size_alloc, World.size_drew] at haz) | (go_at_call 29; (with_reducible refine (HT.out _ (HH.out.below (by exact blw))).mono ?_); rintro e wb ⟨g, rfl, hown, hbb⟩; have hbz := hbb.size; have HOW := Lib.hid hown; have hB4 : Below w.heap.size w wb := blw; have c4b := (hB4.block g3 l3).trans C3.out; have q4 := cell_of_heap c4b 0; have f4 := froz_of_heap c4b 0; have HC4 := Lib.hid c4b; have HBB := Lib.hid hB4; clear hown hbb hB4 c4b)); refine HK_.out _ _ (wld_ofA) ?_; clear HK_)
    (refine z_run (by simp only [List.getElem?_toArray, List.getElem?_cons_succ, List.getElem?_cons_zero]; rfl) (by rfl) (by rfl) (fun K_ hK_ => ?_); have HK_ := Lib.hid hK_; clear hK_; go_wp2_with (first | (go_at_call 30; (with_reducible refine (of_any _ _ _ _).mono ?_); rintro e wa ⟨rfl, hba⟩; have hac := bc hba; have haf := bf hba; have haz := hba.size; try simp only [World.size_alloc, World.size_drew] at haz) | (go_at_call 29; (with_reducible refine (HT.out _ (HH.out.below (by exact blw))).mono ?_); rintro e wb ⟨g, rfl, hown, hbb⟩; have hbz := hbb.size; have HOW := Lib.hid hown; have hB4 : Below w.heap.size w wb := blw; have c4b := (hB4.block g3 l3).trans C3.out; have q4 := cell_of_heap c4b 0; have f4 := froz_of_heap c4b 0; have HC4 := Lib.hid c4b; have HBB := Lib.hid hB4; clear hown hbb hB4 c4b)); refine HK_.out _ _ (wld_ofA) ?_; clear HK_)
    (refine z_last (by simp only [List.getElem?_toArray, List.getElem?_cons_succ, List.getElem?_cons_zero]; rfl) (by rfl) (by rfl) (by rfl) (fun K_ hK_ => ?_); have HK_ := Lib.hid hK_; clear hK_; go_wp2_with (first | (go_at_call 30; (with_reducible refine (of_any _ _ _ _).mono ?_); rintro e wa ⟨rfl, hba⟩; have hac := bc hba; have haf := bf hba; have haz := hba.size; try simp only [World.size_alloc, World.size_drew] at haz) | (go_at_call 29; (with_reducible refine (HT.out _ (HH.out.below (by exact blw))).mono ?_); rintro e wb ⟨g, rfl, hown, hbb⟩; have hbz := hbb.size; have HOW := Lib.hid hown; have hB4 : Below w.heap.size w wb := blw; have c4b := (hB4.block g3 l3).trans C3.out; have q4 := cell_of_heap c4b 0; have f4 := froz_of_heap c4b 0; have HC4 := Lib.hid c4b; have HBB := Lib.hid hB4; clear hown hbb hB4 c4b)); refine HK_.out _ _ ?_; clear HK_)
    refine z_nil ?_
    clear hG_
    go_end0
    refine .inl ⟨rfl, .inl ⟨rfl, rs, S, g, HOK.out, set_heap_at _ HC4.out, ?_, (HBB.out.mono (Nat.le_of_lt (by omega))).setCell (p := ⟨g3, 0, none⟩) hB _, by have := HBB.out.size; simpa using this⟩⟩
    exact (HOW.out.setOther (o := 0) HC4.out notM_ptr (.pointer (some ⟨g, 0, none⟩))).mono (by omega)
  · have HNO := Lib.hid (show ∀ rs S, ¬ MOk bs 30 k rs S from fun rs S ho => hok ⟨rs, S, ho⟩)
    have HT := Lib.hid (fun W hw => show Calls Try.prog 29 #[.agg #[.slice a n c], .int .i64 30, .int .i64 (k : Nat)] W fun e w' => e = .panicked thrown ∧ Below W.heap.size W w' from mtake_bad a n c bs 30 k W hw HL.out hn hc (by decide) (by decide) hk HNO.out)
    clear hok
    go_enter Try.func28, Try.ntmps28
    go_wp2_with fail
    refine wp_region_tree (.step 0 (.step 2 (.step 1 (.step 3 (.step 4 .nil))))) (by kernel_rfl) (by kernel_rfl) (by kernel_rfl) (by kernel_rfl) (by intro _ _ d_ _ _ h_; cases d_ <;> first | exact h_ | (dsimp +zetaDelta only at h_ ⊢; exact h_)) (fun w' => ∃ p : BelW w.heap.size w, w' = p.val) (bel_start _ _) ?_
    have hG_ := @belC w.heap.size w
    (refine tree_quiet (by simp only [List.getElem?_toArray, List.getElem?_cons_succ, List.getElem?_cons_zero]; rfl) (by rfl) (by rfl) (fun K_ hK_ => ?_); go_big_quiet_op; refine hK_ _ ?_; clear hK_ K_)
    (refine tree_quiet (by simp only [List.getElem?_toArray, List.getElem?_cons_succ, List.getElem?_cons_zero]; rfl) (by rfl) (by rfl) (fun K_ hK_ => ?_); go_big_quiet_op; refine hK_ _ ?_; clear hK_ K_)
    (refine tree_run (by simp only [List.getElem?_toArray, List.getElem?_cons_succ, List.getElem?_cons_zero]; rfl) (by rfl) (by rfl) (fun K_ hK_ => ?_); have HK_ := Lib.hid hK_; clear hK_; go_wp2_with (first | (go_at_call 30; (with_reducible refine (of_any _ _ _ _).mono ?_); rintro e wa ⟨rfl, hba⟩; have hac := bc hba; have haf := bf hba; have haz := hba.size; try simp only [World.size_alloc, World.size_drew] at haz) | (go_at_call 29; (with_reducible refine (HT.out _ (HH.out.below (by exact blw))).mono ?_); rintro e wb ⟨rfl, hbb⟩; have hbc := bc hbb; have hbf := bf hbb; have hbz := hbb.size; try simp only [World.size_alloc, World.size_drew] at hbz)); refine HK_.out _ _ (bel_ofA) ?_; clear HK_)
    (refine tree_run (by simp only [List.getElem?_toArray, List.getElem?_cons_succ, List.getElem?_cons_zero]; rfl) (by rfl) (by rfl) (fun K_ hK_ => ?_); have HK_ := Lib.hid hK_; clear hK_; go_wp2_with (first | (go_at_call 30; (with_reducible refine (of_any _ _ _ _).mono ?_); rintro e wa ⟨rfl, hba⟩; have hac := bc hba; have haf := bf hba; have haz := hba.size; try simp only [World.size_alloc, World.size_drew] at haz) | (go_at_call 29; (with_reducible refine (HT.out _ (HH.out.below (by exact blw))).mono ?_); rintro e wb ⟨rfl, hbb⟩; have hbc := bc hbb; have hbf := bf hbb; have hbz := hbb.size; try simp only [World.size_alloc, World.size_drew] at hbz)); exact ⟨rfl, .inr ⟨rfl, .inr ⟨rfl, HNO.out, by repeat (first | exact Below.refl _ _ | assumption | refine bdrew1q ?_ | refine balloc ?_ _ | refine bthen ?_ (by assumption) | refine Below.trans ?_ (by assumption))⟩⟩⟩)
set_option maxRecDepth 100000 in
set_option maxHeartbeats 3200000 in
theorem stateTakes_walk (a : Option Addr) (n c : Nat) (bs : List UInt8) (y : Int) (w : World) (h : Has w a (bytesV bs)) (hl : bs.length = n) (hn : n ≤ c) (hc : c ≤ maxLen) (hy : 0 ≤ y ∧ y ≤ 255) :
    Calls Try.prog 8 #[.slice a n c, .int .u8 y] w fun e w' => e = .returned (.bool true) ∧ Below w.heap.size w w' := by
  have hAC := allocC
  have hAF := allocF
  have hmf : ∀ (fn : Fn) (first cap : Array Value) (w : World), (Instr.makeFunc fn first cap).run Try.prog w = .ok (.func fn first cap) w := fun _ _ _ _ => rfl
  have HSP := Lib.hid (fun W => speaks7_any W)
  obtain ⟨yn, rfl⟩ : ∃ yn : Nat, y = yn := ⟨y.toNat, by omega⟩
  obtain ⟨k, hk⟩ : ∃ k : Nat, k = yn % 3 := ⟨_, rfl⟩
  have hk2 : k ≤ 2 := by omega
  have hkz : (yn : Int) % 3 = (k : Int) := by omega
  have HH := Lib.hid h
  have HL := Lib.hid hl
  clear h hl hk
  by_cases hbig : 600 < n
  · have d1 : decide (600 < (n : Int)) = true := by simp; omega
    go_enter Try.func8, Try.ntmps8
    go_wp2_with (first | (go_at_call 15; (with_reducible refine (HSP.out _).mono ?_); rintro e w1 ⟨rfl, hb1⟩; have h1c := bc hb1; have h1f := bf hb1; have h1z := hb1.size; try simp only [World.size_alloc, World.size_drew] at h1z))
    go_ret
    exact ⟨rfl, blw⟩
  have d1 : decide (600 < (n : Int)) = false := by simp; omega
  go_enter Try.func8, Try.ntmps8
  go_wp2_with (first | (go_at_call 15; (with_reducible refine (HSP.out _).mono ?_); rintro e w1 ⟨rfl, hb1⟩; have h1c := bc hb1; have h1f := bf hb1; have h1z := hb1.size; try simp only [World.size_alloc, World.size_drew] at h1z))
  obtain ⟨W, hW⟩ : ∃ W, W = (w1.alloc (Obj.cells #[.int .i64 (k : Nat)] 3)).alloc (Obj.cells #[.pointer none] 42) := ⟨_, rfl⟩
  have hb : Below w.heap.size w W := by rw [hW]; exact blw
  have hbw : Below w1.heap.size w1 W := by rw [hW]; exact blw
  have hz : W.heap.size = w1.heap.size + 2 := by rw [hW]; simp
  have hw1 : w.heap.size < w1.heap.size := by omega
  have z2 : W.heap[w.heap.size]? = some (.cells #[.slice a n c] 22 (0, 0)) := (hbw.block _ hw1).trans ((hb1.block _ (by simp)).trans (by rw [heap_push, if_pos rfl]))
  have z5 : W.heap[w1.heap.size]? = some (.cells #[.int .i64 (k : Nat)] 3 (0, 0)) := by rw [hW, heap_push, if_neg (by simp), heap_push, if_pos rfl]
  have z6 : W.heap[w1.heap.size + 1]? = some (.cells #[.pointer none] 42 (0, 0)) := by rw [hW, heap_push, if_pos (by simp)]
  rw [← hW]
  have HB := Lib.hid hb
  have HT := Lib.hid (try_any 28 _ W (MRead1R (w1.heap.size + 1) W (w1.heap.size + 1) bs 30 k) (enter_mt1 _)
    (mt1_any (w1.heap.size + 1) a n c bs k w.heap.size w1.heap.size (w1.heap.size + 1) (.pointer none) W (HH.out.below hb) HL.out hn hc hk2 (Nat.le_refl _) (cell_of_heap z2 0) (cell_of_heap z5 0) z6))
  have Z2 := Lib.hid z2
  have Z5 := Lib.hid z5
  have Z6 := Lib.hid z6
  clear hW hb hbw z2 z5 z6 h1c h1f hb1
  refine HT.out.mono ?_
  rintro r w2 ⟨ok, rfl, (⟨rfl, rs, S, g, hok, hG, hM, hb2, hz2⟩ | ⟨rfl, hno, hb2⟩)⟩
  case inr =>
    have HBw := Lib.hid (HB.out.trans (hb2.mono (by omega)))
    have HRF := Lib.hid ((refM_any a n c bs 30 k 30 (k : Int) rfl rfl w2 (HH.out.below HBw.out) HL.out hn hc (by omega) (by decide) (by decide) hk2).mono (R' := fun e w' => e = .returned (.tuple #[zeroMV, .bool false]) ∧ Below w2.heap.size w2 w') (by
      rintro e w' ⟨(⟨rs, S, _, _, ho, _⟩ | ⟨_, he⟩), hb⟩
      · exact absurd ho (hno rs S)
      · exact ⟨he, hb⟩))
    have q2 := cell_of_heap ((hb2.block _ (by omega)).trans Z2.out) 0
    have q5 := cell_of_heap ((hb2.block _ (by omega)).trans Z5.out) 0
    have q6 := cell_of_heap ((hb2.block _ (by omega)).trans Z6.out) 0
    simp only [List.getElem?_toArray, List.getElem?_cons_zero] at q2 q5 q6
    have hz2 := hb2.size
    unfold zeroMV at HRF
    clear hb2 hno HT
    go_wp2_with (first | (go_at_call 17; (with_reducible refine (HRF.out).mono ?_); rintro e w3 ⟨rfl, hb3⟩; have h3c := bc hb3; have h3f := bf hb3; have h3z := hb3.size; try simp only [World.size_alloc, World.size_drew] at h3z))
    go_ret
    exact ⟨rfl, HBw.out.trans (Below.mono (show Below w2.heap.size w2 _ from by exact blw) HBw.out.size)⟩
  have HBw := Lib.hid (HB.out.trans (hb2.mono (by omega)))
  have q2 := cell_of_heap ((hb2.block w.heap.size (by omega)).trans Z2.out) 0
  have q5 := cell_of_heap ((hb2.block w1.heap.size (by omega)).trans Z5.out) 0
  have q6 := cell_of_heap hG 0
  simp only [List.getElem?_toArray, List.getElem?_cons_zero] at q2 q5 q6
  have HM := Lib.hid hM
  have HOK := Lib.hid hok
  have HRF := Lib.hid ((refM_any a n c bs 30 k 30 (k : Int) rfl rfl w2 (HH.out.below HBw.out) HL.out hn hc (by omega) (by decide) (by decide) hk2).mono (R' := fun e w' => (∃ a' c', e = .returned (.tuple #[.agg (mrefA a n c (num bs 0 4) (num bs 8 4) (num bs 12 4) S (needE bs S) k (adv a c (num bs 4 4)) (n - num bs 4 4) (c - num bs 4 4) a' rs.length c'), .bool true])) ∧ Below w2.heap.size w2 w') (by
      rintro e w' ⟨(⟨rs', S', a', c', ho, he⟩ | ⟨hno, _⟩), hb⟩
      · obtain ⟨rfl, rfl⟩ := hok.det ho
        exact ⟨⟨a', c', he⟩, hb⟩
      · exact absurd hok (hno rs S)))
  have HSM := Lib.hid (fun (a' : Option Addr) (c' : Nat) W' (hW' : Below w2.heap.size w2 W') => same_any W.heap.size g bs k rs S a n c bs 30 k rs S (adv a c (num bs 4 4)) (n - num bs 4 4) (c - num bs 4 4) a' rs.length c' W' (HM.out.below hW') (HH.out.below (HBw.out.trans (hW'.mono HBw.out.size))) HL.out (by omega) HOK.out hk2 rfl (Alike.refl bs S k))
  unfold mrefA at HRF HSM
  generalize num bs 0 4 = P0 at *
  generalize num bs 4 4 = P4 at *
  generalize num bs 8 4 = P8 at *
  generalize num bs 12 4 = P12 at *
  generalize needE bs S = NE at *
  generalize adv a c P4 = A4 at *
  generalize rs.length = L at *
  have l6 := (Array.getElem?_eq_some_iff.1 hG).1
  clear hok hG hM hb2 HT
  go_wp2_with (first | (go_at_call 17; (with_reducible refine HRF.out.mono ?_); rintro e w3 ⟨⟨a', c', rfl⟩, hb3⟩; have h3c := bc hb3; have h3f := bf hb3; have h3z := hb3.size) | (go_at_call 18; (with_reducible refine (HSM.out a' c' _ (by exact blw)).mono ?_); rintro e w4 ⟨rfl, hb4⟩))
  go_ret
  exact ⟨rfl, HBw.out.trans (Below.mono (show Below w2.heap.size w2 _ from by exact blw) HBw.out.size)⟩

open Go.ChangeShapes Go.WideShapes Go.ChangeAt Go.RowKit
open Go.ChangeMaps (open_string shut_string)

set_option maxRecDepth 100000 in
theorem stateTakes_walks (H : Type) (enc : TypeId × Value → H) : Walks H enc 8 [22, 5] := by
  intro W base args ds p hval hA _
  obtain ⟨v0, vs0, d0, ds0, p0, q0, hargs, rfl, rfl, h0, r0⟩ := trodAll_cons hA
  obtain ⟨v1, vs1, d1, ds1, p1, q1, rfl, rfl, rfl, h1, r1⟩ := trodAll_cons r0
  obtain ⟨rfl, rfl, rfl⟩ := trodAll_nil r1
  obtain rfl : args = #[v0, v1] := by cases args; simp_all
  obtain ⟨a0, n0, c0, x0, rfl, e0, f0, g0, j0, k0⟩ := open_bytes Try.underlying22 Try.underlying5 (by kernel_rfl) (hval 0 22 v0 rfl rfl) h0
  obtain ⟨z1, rfl, t1⟩ := open_int Try.underlying5 (hval 1 5 v1 rfl rfl) h1
  obtain ⟨x1, rfl, o1⟩ := wf_u8 t1
  exact stateTakes_walk a0 n0 c0 x0 (x1 : Int) W e0 f0 g0 j0 ⟨by omega, by omega⟩

set_option maxRecDepth 100000 in
theorem stateTakes_lifted (os : Os) (started : os.Started) (H : Type) (enc : TypeId × Value → H) :
    ReturnsInHanded {} Try.checked os 8 .any (Rows.stateTakesSpec.pre6 enc Try.prog Try.f8 Rows.stateTakesRow.domain false) (Rows.stateTakesSpec.post enc Try.prog Try.f8 false true false false) :=
  lift_law (s := Rows.stateTakesSpec) (fn := Try.f8) started (by kernel_rfl) Try.func8
    (ChangeSpec.witness6 (enc := enc) (C := Try.checked) false ⟨#[], #[.slice none 0 0, .int .u8 0], []⟩ 8 (by kernel_rfl) (by kernel_rfl) (by kernel_rfl) (by kernel_rfl))
    rfl rfl (fun ds h => by match ds, h with | [d0, d1], _ => rfl) (by intro t ht; simp [Try.params8] at ht; first | (subst ht; exact ⟨by kernel_rfl, of_decide_eq_true (by kernel_rfl)⟩) | (obtain rfl | rfl := ht <;> exact ⟨by kernel_rfl, of_decide_eq_true (by kernel_rfl)⟩) | (obtain rfl | rfl | rfl := ht <;> exact ⟨by kernel_rfl, of_decide_eq_true (by kernel_rfl)⟩) | (obtain rfl | rfl | rfl | rfl := ht <;> exact ⟨by kernel_rfl, of_decide_eq_true (by kernel_rfl)⟩))
    (by rw [Try.params8]; exact stateTakes_walks H enc)
theorem stateTakes_over : Rows.stateTakesRow.holds Try.pinned (OpenSpec.ofChange Rows.stateTakesSpec) :=
  OpenClaim.holds_of_wide 8 Try.f8 rfl rfl rfl rfl rfl rfl rfl ⟨rfl, rfl, rfl, rfl, rfl⟩ rfl rfl rfl rfl rfl (by kernel_rfl) Try.func8 (by kernel_rfl)
    (of_decide_eq_true (by kernel_rfl)) (by unfold Func.isWrapper; first | (rw [if_pos (by decide +kernel)]; kernel_rfl) | (rw [if_neg (by decide +kernel)]; exact ⟨rfl, rfl⟩))
    (fun os started H enc _ => stateTakes_lifted os started H enc)
theorem stateTakes_proved : Rows.StateTakesSaid := stateTakes_over
#print axioms stateTakes_proved
end Go.Proofs.Ythepejljgolcoaa
