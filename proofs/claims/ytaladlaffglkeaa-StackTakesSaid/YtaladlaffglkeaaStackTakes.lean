
/- The walk of StackTakes. StackTakes returns true for every bytes and every line, and changes nothing: whoever takes a subtable of a View has one that does as the one that is read, or it is thrown, just where there is none. No condition beside the row's own. -/
import Derived.Test.YtaladlaffglkeaaJ01
import Derived.Test.YtaladlaffglkeaaJ20
namespace Go.Proofs.Ytaladlaffglkeaa
open Go.RowKit Go.Lib

/-- What the function within StackTakes leaves. -/
def QTake1 (L B : Nat) (w : World) (g3 : Nat) (bs : List UInt8) (ok : Bool) (w' : World) : Prop := QRead1R L B w g3 bs 40 ok w'
theorem enter_qt1 (args : Array Value) (w : World) : (callFunc 37 args).run Try.prog w = .ok (.enter 37 args) w := by kernel_rfl
set_option maxRecDepth 100000 in
set_option maxHeartbeats 1600000 in
theorem qt1_any (L B : Nat) (a : Option Addr) (n c : Nat) (bs : List UInt8) (g0 g3 : Nat) (x : Value) (w : World) (h : Has w a (bytesV bs)) (hf : 0 < bs.length → BHas L a bs w) (hl : bs.length = n) (hn : n ≤ c) (hc : c ≤ maxLen) (hB : B ≤ g3) (hL : L ≤ g3)
    (c0 : w.cell? ⟨g0, 0, none⟩ = some (.slice a n c))
    (c3 : w.heap[g3]? = some (.cells #[x] 73 (0, 0))) :
    Calls Try.prog 37 #[.pointer (some ⟨g0, 0, none⟩), .pointer (some ⟨g3, 0, none⟩)] w
      fun e w' => (e = .returned (.tuple #[]) ∧ QTake1 L B w g3 bs true w') ∨ (e = .panicked thrown ∧ QTake1 L B w g3 bs false w') := by
  have HH := Lib.hid h
  have HL := Lib.hid hl
  have HF := Lib.hid hf
  have C3 := Lib.hid c3
  have l0 := cell_lt c0
  have l3 := (Array.getElem?_eq_some_iff.1 c3).1
  simp only at l0 l3
  clear h hf hl c3
  by_cases hok : ∃ rs S, QOk bs 40 rs S
  · obtain ⟨rs, S, hok⟩ := hok
    have HOK := Lib.hid hok
    have HT := Lib.hid (fun W hw => show Calls Try.prog 38 #[.agg #[.slice a n c], .int .i64 40] W fun e w' => ∃ g, e = .returned (.pointer (some ⟨g, 0, none⟩)) ∧ QIs L W.heap.size g bs rs S w' ∧ Below W.heap.size W w' from qtake_ok L a n c bs 40 rs S W hw HL.out hn hc (by decide) (by decide) hok)
    have HBO := Lib.hid (HF.out (by have := hok.l20; omega))
    clear hok
    go_enter Try.func37, Try.ntmps37
    go_wp2_with fail
    go_wp2_with (first | (go_at_call 39; (with_reducible refine (of_any _ _ _ _).mono ?_); rintro e wa ⟨rfl, hba⟩; have hac := bc hba; have haf := bf hba; have haz := hba.size; try simp only [World.size_alloc, World.size_drew] at haz) | (go_at_call 38; (with_reducible refine (HT.out _ (HBO.out.below (by exact blw))).mono ?_); rintro e wb ⟨g, rfl, hown, hbb⟩; have hbz := hbb.size; have HOW := Lib.hid hown; have hB4 : Below w.heap.size w wb := blw; have c4b := (hB4.block g3 l3).trans C3.out; have q4 := cell_of_heap c4b 0; have f4 := froz_of_heap c4b 0; have HC4 := Lib.hid c4b; have HBB := Lib.hid hB4; clear hown hbb hB4 c4b))
    go_end0
    refine .inl ⟨rfl, .inl ⟨rfl, rs, S, g, HOK.out, set_heap_at _ HC4.out, ?_, (HBB.out.mono (Nat.le_of_lt (by omega))).setCell (p := ⟨g3, 0, none⟩) hB _, by have := HBB.out.size; simpa using this⟩⟩
    exact (HOW.out.setOther HC4.out hL (.pointer (some ⟨g, 0, none⟩))).mono (by omega)
  · have HNO := Lib.hid (show ∀ rs S, ¬ QOk bs 40 rs S from fun rs S ho => hok ⟨rs, S, ho⟩)
    have HT := Lib.hid (fun W hw (hf : 0 < bs.length → BHas L a bs W) => show Calls Try.prog 38 #[.agg #[.slice a n c], .int .i64 40] W fun e w' => e = .panicked thrown ∧ Below W.heap.size W w' from qtake_bad L a n c bs 40 W hw hf HL.out hn hc (by decide) (by decide) HNO.out)
    clear hok
    go_enter Try.func37, Try.ntmps37
    go_wp2_with fail
    go_wp2_with (first | (go_at_call 39; (with_reducible refine (of_any _ _ _ _).mono ?_); rintro e wa ⟨rfl, hba⟩; have hac := bc hba; have haf := bf hba; have haz := hba.size; try simp only [World.size_alloc, World.size_drew] at haz) | (go_at_call 38; (with_reducible refine (HT.out _ (HH.out.below (by exact blw)) (fun h0 => (HF.out h0).below (by exact blw))).mono ?_); rintro e wb ⟨rfl, hbb⟩))
    exact ⟨rfl, .inr ⟨rfl, .inr ⟨rfl, HNO.out, blw⟩⟩⟩
set_option maxRecDepth 100000 in
set_option maxHeartbeats 6400000 in
theorem stackTakes_walk (a : Option Addr) (n c : Nat) (bs : List UInt8) (aI : Option Addr) (nI cI : Nat) (ids : List Int) (w : World) (h : Has w a (bytesV bs)) (hl : bs.length = n) (hn : n ≤ c) (hc : c ≤ maxLen)
    (hi : Has w aI (iv ids)) (hil : ids.length = nI) (hiw : ∀ z ∈ ids, -9223372036854775808 ≤ z ∧ z ≤ 9223372036854775807) :
    Calls Try.prog 8 #[.slice a n c, .slice aI nI cI] w fun e w' => e = .returned (.bool true) ∧ Below w.heap.size w w' := by
  have hAC := allocC
  have hAF := allocF
  have hmf : ∀ (fn : Fn) (first cap : Array Value) (w : World), (Instr.makeFunc fn first cap).run Try.prog w = .ok (.func fn first cap) w := fun _ _ _ _ => rfl
  have HSP := Lib.hid (fun W (_ : Below w.heap.size w W) => speaks23_any W)
  have HH := Lib.hid h
  have HL := Lib.hid hl
  have HI := Lib.hid hi
  have HIL := Lib.hid hil
  have HIW := Lib.hid hiw
  clear h hl hi hil hiw
  by_cases hbig : 800 < n
  · have d1 : decide (800 < (n : Int)) = true := by simp; omega
    go_enter Try.func8, Try.ntmps8
    go_wp2_with (first | (go_at_call 27; (with_reducible refine (HSP.out _ (by exact blw)).mono ?_); rintro e w1 ⟨rfl, hb1⟩; have h1c := bc hb1; have h1f := bf hb1; have h1z := hb1.size; try simp only [World.size_alloc, World.size_drew] at h1z))
    go_ret
    exact ⟨rfl, blw⟩
  have d1 : decide (800 < (n : Int)) = false := by simp; omega
  by_cases hbig2 : 40 < nI
  · have d2 : decide (40 < (nI : Int)) = true := by simp; omega
    go_enter Try.func8, Try.ntmps8
    go_wp2_with (first | (go_at_call 27; (with_reducible refine (HSP.out _ (by exact blw)).mono ?_); rintro e w1 ⟨rfl, hb1⟩; have h1c := bc hb1; have h1f := bf hb1; have h1z := hb1.size; try simp only [World.size_alloc, World.size_drew] at h1z))
    go_ret
    exact ⟨rfl, blw⟩
  have d2 : decide (40 < (nI : Int)) = false := by simp; omega
  go_enter Try.func8, Try.ntmps8
  go_wp2_with (first | (go_at_call 27; (with_reducible refine (HSP.out _ (by exact blw)).mono ?_); rintro e w1 ⟨rfl, hb1⟩; have h1c := bc hb1; have h1f := bf hb1; have h1z := hb1.size; try simp only [World.size_alloc, World.size_drew] at h1z))
  obtain ⟨W, hW⟩ : ∃ W, W = w1.alloc (Obj.cells #[.pointer none] 73) := ⟨_, rfl⟩
  have hb : Below w.heap.size w W := by rw [hW]; exact blw
  have hbw : Below w1.heap.size w1 W := by rw [hW]; exact blw
  have hz : W.heap.size = w1.heap.size + 1 := by rw [hW]; simp
  have hw1 : w.heap.size < w1.heap.size := by omega
  have z2 : W.heap[w.heap.size]? = some (.cells #[.slice a n c] 22 (0, 0)) := (hbw.block _ hw1).trans ((hb1.block _ (by simp)).trans (by rw [heap_push, if_pos rfl]))
  have z6 : W.heap[w1.heap.size]? = some (.cells #[.pointer none] 73 (0, 0)) := by rw [hW, heap_push, if_pos (by simp)]
  rw [← hW]
  have HB := Lib.hid hb
  have HT := Lib.hid (try_any 37 _ W (QTake1 w.heap.size w1.heap.size W w1.heap.size bs) (enter_qt1 _)
    (qt1_any w.heap.size w1.heap.size a n c bs w.heap.size w1.heap.size (.pointer none) W (HH.out.below hb) (fun h0 => (BHas.of_has HH.out (Nat.le_refl _) h0).below hb) HL.out hn hc (Nat.le_refl _) (by omega) (cell_of_heap z2 0) z6))
  have Z2 := Lib.hid z2
  have Z6 := Lib.hid z6
  clear hW hb hbw z2 z6 h1c h1f hb1
  refine HT.out.mono ?_
  rintro r w2 ⟨ok, rfl, (⟨rfl, rs, S, gt, hok, hG, hM, hb2, hz2⟩ | ⟨rfl, hno, hb2⟩)⟩
  case inr =>
    have HBw := Lib.hid (HB.out.trans (hb2.mono (by omega)))
    have HRD := Lib.hid (qread_none a n c bs 40 40 rfl w2 (HH.out.below HBw.out) HL.out (by omega) (by decide) (by decide) hno)
    have q2 := cell_of_heap ((hb2.block _ (by omega)).trans Z2.out) 0
    have q6 := cell_of_heap ((hb2.block _ (by omega)).trans Z6.out) 0
    simp only [List.getElem?_toArray, List.getElem?_cons_zero] at q2 q6
    have hz2 := hb2.size
    clear hb2 hno HT
    go_wp2_with (first | (go_at_call 29; (with_reducible refine (HRD.out).mono ?_); rintro e w3 ⟨rfl, hb3⟩; have h3c := bc hb3; have h3f := bf hb3; have h3z := hb3.size; try simp only [World.size_alloc, World.size_drew] at h3z))
    go_ret
    exact ⟨rfl, HBw.out.trans (Below.mono (show Below w2.heap.size w2 _ from by exact blw) HBw.out.size)⟩
  have HBw := Lib.hid (HB.out.trans (hb2.mono (by omega)))
  have q2 := cell_of_heap ((hb2.block w.heap.size (by omega)).trans Z2.out) 0
  have q6 := cell_of_heap hG 0
  simp only [List.getElem?_toArray, List.getElem?_cons_zero] at q2 q6
  have HM := Lib.hid hM
  have HG := Lib.hid hG
  have HOK := Lib.hid hok
  have HRD := Lib.hid (qread_some a n c bs 40 40 rfl rs S w2 (HH.out.below HBw.out) HL.out (by omega) (by decide) (by decide) hok)
  have l6 := (Array.getElem?_eq_some_iff.1 hG).1
  have HRUN := Lib.hid (fun (Lx Bm gt gl : Nat) (a : Option Addr) (c : Nat) (Bl gp : Nat) (ap : Option Addr) (cp : Nat) (W : World) (hLx : Lx ≤ w.heap.size) (hT : QIs Lx Bm gt bs rs S W) (hG : GIs Bl gl a c (newG ids) W) (hP : PlIs w.heap.size gp (decide ((0 : Int) = 2)) ap cp (newP (List.replicate nI 0)) W) (hB : w.heap.size ≤ W.heap.size) => qrun_any Lx Bm gt bs 40 rs S w.heap.size Bl gl a c (newG ids) gp (decide ((0 : Int) = 2)) true ap cp (newP (List.replicate nI 0)) W hT hok (by decide) (by decide) hLx hG hP (newP_in _) hB (newG_idsC HIW.out) (by rw [newG_length, HIL.out]; omega))
  have hRL : (stackD bs rs (bs.drop (num bs 16 4)) (decide ((0 : Int) = 2)) true (newG ids) (newP (List.replicate nI 0))).1.2.length = nI := by rw [(stackD_ok bs rs _ _ _ _ _ (newP_in _)).2, newP_length, List.length_replicate]
  generalize stackD bs rs (bs.drop (num bs 16 4)) (decide ((0 : Int) = 2)) true (newG ids) (newP (List.replicate nI 0)) = RR at *
  obtain ⟨⟨_, R⟩, _, E⟩ := RR
  simp only at HRUN hRL
  clear hok hG hM hb2 HT
  go_wp2_with (first
    | (go_at_call 29; (with_reducible refine HRD.out.mono ?_); rintro e w3 ⟨gu, rfl, hU, hb3⟩; have HU := Lib.hid hU; have HM3 := Lib.hid (HM.out.below hb3); have h3c := bc hb3; have h3f := bf hb3; have h3z := hb3.size; have HB3 := Lib.hid (HBw.out.trans (hb3.mono HBw.out.size)); have q63 := cell_of_heap ((hb3.block w1.heap.size l6).trans HG.out) 0; simp only [List.getElem?_toArray, List.getElem?_cons_zero] at q63; have Z63 := Lib.hid ((hb3.block w1.heap.size l6).trans HG.out); clear hU)
    | (at_make; refine wpMake _ rfl _ _ 23 rfl w3.heap.size 3 (.int .i64 0) 1 8 Try.underlying23 info_int nI rfl rfl (by omega) (by unfold maxLen; omega) (by first | exact Nat.le_refl _ | simp) ?_; intro w4 ho4 hb4; rw [made_ivK] at ho4; have HN4 := Lib.hid (has_of_owns ho4); have HB34 := Lib.hid hb4; have HB4 := Lib.hid (HB3.out.trans (hb4.mono HB3.out.size)); clear ho4 hb4)
    | (go_at_call 31; (with_reducible refine (pnew_any 0 _ nI nI _ w4 HN4.out (by simp) (by omega)).mono ?_); rintro e w5 ⟨g1, a1, c1, rfl, hP1, hg1, hb5⟩; have HP1 := Lib.hid hP1; have HN5 := Lib.hid (HN4.out.below hb5); have HB35 := Lib.hid (HB34.out.trans (hb5.mono HB34.out.size)); have HB5 := Lib.hid (HB4.out.trans (hb5.mono HB4.out.size)); have hg1w : g1 < w5.heap.size := (Array.getElem?_eq_some_iff.1 hP1.hd).1; clear hP1 hg1 hb5)
    | (go_at_call 31; (with_reducible refine (pnew_any 0 _ nI nI _ w5 HN5.out (by simp) (by omega)).mono ?_); rintro e w6 ⟨g2, a2, c2, rfl, hP2, hg2, hb6⟩; have HNE := Lib.hid (show ∀ k, a2.map (·.block) = some k → a1.map (·.block) ≠ some k from fun k hk hx => by have h1 := (hP2.rowIn k hk).1; have h2 := (HP1.out.rowIn k hx).2; omega); have HGE := Lib.hid (show g2 ≠ g1 by omega); have HP16 := Lib.hid ((HP1.out.below hb6).mono HB4.out.size); have HP26 := Lib.hid (hP2.mono HB5.out.size); have hb36 := HB35.out.trans (hb6.mono HB35.out.size); have HB6 := Lib.hid (HB5.out.trans (hb6.mono HB5.out.size)); have HM6 := Lib.hid (HM3.out.below hb36); have HU6 := Lib.hid (HU.out.below hb36); have z66 := (hb36.block w1.heap.size (Array.getElem?_eq_some_iff.1 Z63.out).1).trans Z63.out; have hz6 := HB6.out.size; clear hP2 hg2 hb6 hb36))
  clear h3c h3f q6 q2 q63
  have Z66 := Lib.hid z66
  have hsz : w1.heap.size < w6.heap.size := (Array.getElem?_eq_some_iff.1 z66).1
  refine wp_region_tree (.step 0 (.step 1 (.step 3 (.step 5 (.step 6 (.step 8 (.step 2 (.step 4 (.step 7 (.step 9 (.step 10 (.step 11 (.step 12 (.step 14 (.step 13 (.step 15 (.step 16 (.step 17 (.step 18 .nil))))))))))))))))))) (by kernel_rfl) (by kernel_rfl) (by kernel_rfl) (by kernel_rfl) (by intro _ _ d_ _ _ h_; cases d_ <;> first | exact h_ | (dsimp +zetaDelta only at h_ ⊢; exact h_)) (fun w' => ∃ p : KepP (ownPG) w6, w' = p.val) (kepP_start _ _) ?_
  have hK0_ := fun (p : KepP (ownPG) w6) (o : Nat) => p.is.cell z66 (by first | (intro h_; exact absurd h_.1 (by decide)) | (intro h_; exact h_.2 rfl) | (intro h_; rcases h_ with h_ | h_ | h_ <;> exact absurd h_ (by decide)) | (intro h_; rcases h_ with h_ | h_ <;> exact absurd h_ (by decide))) o
  (refine tree_quiet gtA (by rfl) (by rfl) (fun K_ hK_ => ?_); go_big_quiet_op; refine hK_ _ ?_; clear hK_ K_)
  (refine tree_quiet gtA (by rfl) (by rfl) (fun K_ hK_ => ?_); go_big_quiet_op; refine hK_ _ ?_; clear hK_ K_)
  (refine tree_quiet gtA (by rfl) (by rfl) (fun K_ hK_ => ?_); go_big_quiet_op; refine hK_ _ ?_; clear hK_ K_)
  (refine tree_quiet gtA (by rfl) (by rfl) (fun K_ hK_ => ?_); go_big_quiet_op; refine hK_ _ ?_; clear hK_ K_)
  (refine tree_quiet gtA (by rfl) (by rfl) (fun K_ hK_ => ?_); go_big_quiet_op; refine hK_ _ ?_; clear hK_ K_)
  (refine tree_quiet gtA (by rfl) (by rfl) (fun K_ hK_ => ?_); go_big_quiet_op; refine hK_ _ ?_; clear hK_ K_)
  (refine tree_run gtA (by rfl) (by rfl) (fun K_ hK_ => ?_); have HK_ := Lib.hid hK_; clear hK_; go_wp2_with (first
    | (go_at_call 15; (with_reducible refine (gnew_any aI nI cI ids w8 (HI.out.below HB8.out) HIL.out (by omega)).mono ?_); rintro e w9 ⟨gy, ay, cy, rfl, hGy, hgy, hb9⟩; have hko9 : KeptO ownPG w6 w9 := hko8.trans (KeptO.below hb9); have HGY := Lib.hid hGy; have HU9 := Lib.hid (HU8.out.below hb9); have HP19 := Lib.hid (HP18.out.below hb9); have HP29 := Lib.hid (HP28.out.below hb9); have HB9 := Lib.hid (HB8.out.trans (hb9.mono HB8.out.size)); clear hGy hgy)
    | (go_at_call 15; (with_reducible refine (gnew_any aI nI cI ids _ (HI.out.below (HB6.out.trans (Below.mono (w := w6) (by exact blw) HB6.out.size))) HIL.out (by omega)).mono ?_); rintro e w7 ⟨gx, ax, cx, rfl, hGx, hgx, hb7⟩; have hb67 : Below w6.heap.size w6 w7 := (by exact blw); have hko7 : KeptO ownPG w6 w7 := KeptO.below hb67; have HGX := Lib.hid hGx; have HM7 := Lib.hid (HM6.out.below hb67); have HU7 := Lib.hid (HU6.out.below hb67); have HP17 := Lib.hid (HP16.out.below hb67); have HP27 := Lib.hid (HP26.out.below hb67); have HB7 := Lib.hid (HB6.out.trans (hb67.mono HB6.out.size)); clear hGx hgx)
    | (go_at_call 33; (with_reducible refine (HRUN.out _ _ _ _ _ _ _ _ _ _ w7 (Nat.le_refl _) HM7.out HGX.out HP17.out HB7.out.size).mono ?_); rintro e w8 ⟨rfl, hp8, hk8⟩; have hko8 : KeptO ownPG w6 w8 := hko7.trans ⟨hk8.size, fun k cs t fz hk ho => hk8.kept k cs t fz hk (fun h => ho h.g)⟩; have HP18 := Lib.hid hp8; have HP28 := Lib.hid (HP27.out.keepP hk8 HGE.out HNE.out); have HU8 := Lib.hid (HU7.out.keep hk8 (Nat.zero_le _) (notM_Pl _ _) (ownPl_no (by decide) (by decide)) (ownPl_no (by decide) (by decide))); have HB8 := Lib.hid (HB7.out.trans hk8.below); clear hp8 hk8)
    | (go_at_call 33; (with_reducible refine (HRUN.out _ _ _ _ _ _ _ _ _ _ w9 (Nat.zero_le _) HU9.out HGY.out HP29.out HB9.out.size).mono ?_); rintro e w10 ⟨rfl, hp10, hk10⟩; have hko10 : KeptO ownPG w6 w10 := hko9.trans ⟨hk10.size, fun k cs t fz hk ho => hk10.kept k cs t fz hk (fun h => ho h.g)⟩; have HP210 := Lib.hid hp10; have HP110 := Lib.hid (HP19.out.keepP hk10 (Ne.symm HGE.out) (fun k hk h2 => HNE.out k h2 hk)); have HB10 := Lib.hid (HB9.out.trans hk10.below); clear hp10 hk10)
    | (go_at_call 34; (with_reducible refine (pall_any _ _ _ _ _ R w10 HP110.out (by simp only [hRL]; omega)).mono ?_); rintro e w11 ⟨a11, c11, rfl, ho, _, _, _, hb11⟩; have hko11 : KeptO ownPG w6 w11 := hko10.trans (KeptO.below hb11); have HH11 := Lib.hid (has_of_owns ho); have HP211 := Lib.hid (HP210.out.below hb11); have HB11 := Lib.hid (HB10.out.trans (hb11.mono HB10.out.size)); clear ho)
    | (go_at_call 34; (with_reducible refine (pall_any _ _ _ _ _ R w11 HP211.out (by simp only [hRL]; omega)).mono ?_); rintro e w12 ⟨a12, c12, rfl, ho, _, _, _, hb12⟩; have hko12 : KeptO ownPG w6 w12 := hko11.trans (KeptO.below hb12); have HH12 := Lib.hid (has_of_owns ho); have HH112 := Lib.hid (HH11.out.below hb12); have HB12 := Lib.hid (HB11.out.trans (hb12.mono HB11.out.size)); clear ho)
    | (go_at_call 40; (with_reducible refine (refSameP_any _ _ _ _ _ _ R R w12 HH112.out hRL HH12.out hRL (by omega) (by omega)).mono ?_); rintro e w13 ⟨rfl, hb13⟩; rw [decide_eq_true rfl]; have hko13 : KeptO ownPG w6 w13 := hko12.trans (KeptO.below hb13); have HB13 := Lib.hid (HB12.out.trans (hb13.mono HB12.out.size)))); refine HK_.out _ _ (kepP_ofA) ?_; clear HK_)
  (refine tree_run gtA (by rfl) (by rfl) (fun K_ hK_ => ?_); have HK_ := Lib.hid hK_; clear hK_; go_wp2_with (first
    | (go_at_call 15; (with_reducible refine (gnew_any aI nI cI ids w8 (HI.out.below HB8.out) HIL.out (by omega)).mono ?_); rintro e w9 ⟨gy, ay, cy, rfl, hGy, hgy, hb9⟩; have hko9 : KeptO ownPG w6 w9 := hko8.trans (KeptO.below hb9); have HGY := Lib.hid hGy; have HU9 := Lib.hid (HU8.out.below hb9); have HP19 := Lib.hid (HP18.out.below hb9); have HP29 := Lib.hid (HP28.out.below hb9); have HB9 := Lib.hid (HB8.out.trans (hb9.mono HB8.out.size)); clear hGy hgy)
    | (go_at_call 15; (with_reducible refine (gnew_any aI nI cI ids _ (HI.out.below (HB6.out.trans (Below.mono (w := w6) (by exact blw) HB6.out.size))) HIL.out (by omega)).mono ?_); rintro e w7 ⟨gx, ax, cx, rfl, hGx, hgx, hb7⟩; have hb67 : Below w6.heap.size w6 w7 := (by exact blw); have hko7 : KeptO ownPG w6 w7 := KeptO.below hb67; have HGX := Lib.hid hGx; have HM7 := Lib.hid (HM6.out.below hb67); have HU7 := Lib.hid (HU6.out.below hb67); have HP17 := Lib.hid (HP16.out.below hb67); have HP27 := Lib.hid (HP26.out.below hb67); have HB7 := Lib.hid (HB6.out.trans (hb67.mono HB6.out.size)); clear hGx hgx)
    | (go_at_call 33; (with_reducible refine (HRUN.out _ _ _ _ _ _ _ _ _ _ w7 (Nat.le_refl _) HM7.out HGX.out HP17.out HB7.out.size).mono ?_); rintro e w8 ⟨rfl, hp8, hk8⟩; have hko8 : KeptO ownPG w6 w8 := hko7.trans ⟨hk8.size, fun k cs t fz hk ho => hk8.kept k cs t fz hk (fun h => ho h.g)⟩; have HP18 := Lib.hid hp8; have HP28 := Lib.hid (HP27.out.keepP hk8 HGE.out HNE.out); have HU8 := Lib.hid (HU7.out.keep hk8 (Nat.zero_le _) (notM_Pl _ _) (ownPl_no (by decide) (by decide)) (ownPl_no (by decide) (by decide))); have HB8 := Lib.hid (HB7.out.trans hk8.below); clear hp8 hk8)
    | (go_at_call 33; (with_reducible refine (HRUN.out _ _ _ _ _ _ _ _ _ _ w9 (Nat.zero_le _) HU9.out HGY.out HP29.out HB9.out.size).mono ?_); rintro e w10 ⟨rfl, hp10, hk10⟩; have hko10 : KeptO ownPG w6 w10 := hko9.trans ⟨hk10.size, fun k cs t fz hk ho => hk10.kept k cs t fz hk (fun h => ho h.g)⟩; have HP210 := Lib.hid hp10; have HP110 := Lib.hid (HP19.out.keepP hk10 (Ne.symm HGE.out) (fun k hk h2 => HNE.out k h2 hk)); have HB10 := Lib.hid (HB9.out.trans hk10.below); clear hp10 hk10)
    | (go_at_call 34; (with_reducible refine (pall_any _ _ _ _ _ R w10 HP110.out (by simp only [hRL]; omega)).mono ?_); rintro e w11 ⟨a11, c11, rfl, ho, _, _, _, hb11⟩; have hko11 : KeptO ownPG w6 w11 := hko10.trans (KeptO.below hb11); have HH11 := Lib.hid (has_of_owns ho); have HP211 := Lib.hid (HP210.out.below hb11); have HB11 := Lib.hid (HB10.out.trans (hb11.mono HB10.out.size)); clear ho)
    | (go_at_call 34; (with_reducible refine (pall_any _ _ _ _ _ R w11 HP211.out (by simp only [hRL]; omega)).mono ?_); rintro e w12 ⟨a12, c12, rfl, ho, _, _, _, hb12⟩; have hko12 : KeptO ownPG w6 w12 := hko11.trans (KeptO.below hb12); have HH12 := Lib.hid (has_of_owns ho); have HH112 := Lib.hid (HH11.out.below hb12); have HB12 := Lib.hid (HB11.out.trans (hb12.mono HB11.out.size)); clear ho)
    | (go_at_call 40; (with_reducible refine (refSameP_any _ _ _ _ _ _ R R w12 HH112.out hRL HH12.out hRL (by omega) (by omega)).mono ?_); rintro e w13 ⟨rfl, hb13⟩; rw [decide_eq_true rfl]; have hko13 : KeptO ownPG w6 w13 := hko12.trans (KeptO.below hb13); have HB13 := Lib.hid (HB12.out.trans (hb13.mono HB12.out.size)))); refine HK_.out _ _ (kepP_ofA) ?_; clear HK_)
  (refine tree_run gtA (by rfl) (by rfl) (fun K_ hK_ => ?_); have HK_ := Lib.hid hK_; clear hK_; go_wp2_with (first
    | (go_at_call 15; (with_reducible refine (gnew_any aI nI cI ids w8 (HI.out.below HB8.out) HIL.out (by omega)).mono ?_); rintro e w9 ⟨gy, ay, cy, rfl, hGy, hgy, hb9⟩; have hko9 : KeptO ownPG w6 w9 := hko8.trans (KeptO.below hb9); have HGY := Lib.hid hGy; have HU9 := Lib.hid (HU8.out.below hb9); have HP19 := Lib.hid (HP18.out.below hb9); have HP29 := Lib.hid (HP28.out.below hb9); have HB9 := Lib.hid (HB8.out.trans (hb9.mono HB8.out.size)); clear hGy hgy)
    | (go_at_call 15; (with_reducible refine (gnew_any aI nI cI ids _ (HI.out.below (HB6.out.trans (Below.mono (w := w6) (by exact blw) HB6.out.size))) HIL.out (by omega)).mono ?_); rintro e w7 ⟨gx, ax, cx, rfl, hGx, hgx, hb7⟩; have hb67 : Below w6.heap.size w6 w7 := (by exact blw); have hko7 : KeptO ownPG w6 w7 := KeptO.below hb67; have HGX := Lib.hid hGx; have HM7 := Lib.hid (HM6.out.below hb67); have HU7 := Lib.hid (HU6.out.below hb67); have HP17 := Lib.hid (HP16.out.below hb67); have HP27 := Lib.hid (HP26.out.below hb67); have HB7 := Lib.hid (HB6.out.trans (hb67.mono HB6.out.size)); clear hGx hgx)
    | (go_at_call 33; (with_reducible refine (HRUN.out _ _ _ _ _ _ _ _ _ _ w7 (Nat.le_refl _) HM7.out HGX.out HP17.out HB7.out.size).mono ?_); rintro e w8 ⟨rfl, hp8, hk8⟩; have hko8 : KeptO ownPG w6 w8 := hko7.trans ⟨hk8.size, fun k cs t fz hk ho => hk8.kept k cs t fz hk (fun h => ho h.g)⟩; have HP18 := Lib.hid hp8; have HP28 := Lib.hid (HP27.out.keepP hk8 HGE.out HNE.out); have HU8 := Lib.hid (HU7.out.keep hk8 (Nat.zero_le _) (notM_Pl _ _) (ownPl_no (by decide) (by decide)) (ownPl_no (by decide) (by decide))); have HB8 := Lib.hid (HB7.out.trans hk8.below); clear hp8 hk8)
    | (go_at_call 33; (with_reducible refine (HRUN.out _ _ _ _ _ _ _ _ _ _ w9 (Nat.zero_le _) HU9.out HGY.out HP29.out HB9.out.size).mono ?_); rintro e w10 ⟨rfl, hp10, hk10⟩; have hko10 : KeptO ownPG w6 w10 := hko9.trans ⟨hk10.size, fun k cs t fz hk ho => hk10.kept k cs t fz hk (fun h => ho h.g)⟩; have HP210 := Lib.hid hp10; have HP110 := Lib.hid (HP19.out.keepP hk10 (Ne.symm HGE.out) (fun k hk h2 => HNE.out k h2 hk)); have HB10 := Lib.hid (HB9.out.trans hk10.below); clear hp10 hk10)
    | (go_at_call 34; (with_reducible refine (pall_any _ _ _ _ _ R w10 HP110.out (by simp only [hRL]; omega)).mono ?_); rintro e w11 ⟨a11, c11, rfl, ho, _, _, _, hb11⟩; have hko11 : KeptO ownPG w6 w11 := hko10.trans (KeptO.below hb11); have HH11 := Lib.hid (has_of_owns ho); have HP211 := Lib.hid (HP210.out.below hb11); have HB11 := Lib.hid (HB10.out.trans (hb11.mono HB10.out.size)); clear ho)
    | (go_at_call 34; (with_reducible refine (pall_any _ _ _ _ _ R w11 HP211.out (by simp only [hRL]; omega)).mono ?_); rintro e w12 ⟨a12, c12, rfl, ho, _, _, _, hb12⟩; have hko12 : KeptO ownPG w6 w12 := hko11.trans (KeptO.below hb12); have HH12 := Lib.hid (has_of_owns ho); have HH112 := Lib.hid (HH11.out.below hb12); have HB12 := Lib.hid (HB11.out.trans (hb12.mono HB11.out.size)); clear ho)
    | (go_at_call 40; (with_reducible refine (refSameP_any _ _ _ _ _ _ R R w12 HH112.out hRL HH12.out hRL (by omega) (by omega)).mono ?_); rintro e w13 ⟨rfl, hb13⟩; rw [decide_eq_true rfl]; have hko13 : KeptO ownPG w6 w13 := hko12.trans (KeptO.below hb13); have HB13 := Lib.hid (HB12.out.trans (hb13.mono HB12.out.size)))); refine HK_.out _ _ (kepP_ofA) ?_; clear HK_)
  (refine tree_run gtA (by rfl) (by rfl) (fun K_ hK_ => ?_); have HK_ := Lib.hid hK_; clear hK_; go_wp2_with (first
    | (go_at_call 15; (with_reducible refine (gnew_any aI nI cI ids w8 (HI.out.below HB8.out) HIL.out (by omega)).mono ?_); rintro e w9 ⟨gy, ay, cy, rfl, hGy, hgy, hb9⟩; have hko9 : KeptO ownPG w6 w9 := hko8.trans (KeptO.below hb9); have HGY := Lib.hid hGy; have HU9 := Lib.hid (HU8.out.below hb9); have HP19 := Lib.hid (HP18.out.below hb9); have HP29 := Lib.hid (HP28.out.below hb9); have HB9 := Lib.hid (HB8.out.trans (hb9.mono HB8.out.size)); clear hGy hgy)
    | (go_at_call 15; (with_reducible refine (gnew_any aI nI cI ids _ (HI.out.below (HB6.out.trans (Below.mono (w := w6) (by exact blw) HB6.out.size))) HIL.out (by omega)).mono ?_); rintro e w7 ⟨gx, ax, cx, rfl, hGx, hgx, hb7⟩; have hb67 : Below w6.heap.size w6 w7 := (by exact blw); have hko7 : KeptO ownPG w6 w7 := KeptO.below hb67; have HGX := Lib.hid hGx; have HM7 := Lib.hid (HM6.out.below hb67); have HU7 := Lib.hid (HU6.out.below hb67); have HP17 := Lib.hid (HP16.out.below hb67); have HP27 := Lib.hid (HP26.out.below hb67); have HB7 := Lib.hid (HB6.out.trans (hb67.mono HB6.out.size)); clear hGx hgx)
    | (go_at_call 33; (with_reducible refine (HRUN.out _ _ _ _ _ _ _ _ _ _ w7 (Nat.le_refl _) HM7.out HGX.out HP17.out HB7.out.size).mono ?_); rintro e w8 ⟨rfl, hp8, hk8⟩; have hko8 : KeptO ownPG w6 w8 := hko7.trans ⟨hk8.size, fun k cs t fz hk ho => hk8.kept k cs t fz hk (fun h => ho h.g)⟩; have HP18 := Lib.hid hp8; have HP28 := Lib.hid (HP27.out.keepP hk8 HGE.out HNE.out); have HU8 := Lib.hid (HU7.out.keep hk8 (Nat.zero_le _) (notM_Pl _ _) (ownPl_no (by decide) (by decide)) (ownPl_no (by decide) (by decide))); have HB8 := Lib.hid (HB7.out.trans hk8.below); clear hp8 hk8)
    | (go_at_call 33; (with_reducible refine (HRUN.out _ _ _ _ _ _ _ _ _ _ w9 (Nat.zero_le _) HU9.out HGY.out HP29.out HB9.out.size).mono ?_); rintro e w10 ⟨rfl, hp10, hk10⟩; have hko10 : KeptO ownPG w6 w10 := hko9.trans ⟨hk10.size, fun k cs t fz hk ho => hk10.kept k cs t fz hk (fun h => ho h.g)⟩; have HP210 := Lib.hid hp10; have HP110 := Lib.hid (HP19.out.keepP hk10 (Ne.symm HGE.out) (fun k hk h2 => HNE.out k h2 hk)); have HB10 := Lib.hid (HB9.out.trans hk10.below); clear hp10 hk10)
    | (go_at_call 34; (with_reducible refine (pall_any _ _ _ _ _ R w10 HP110.out (by simp only [hRL]; omega)).mono ?_); rintro e w11 ⟨a11, c11, rfl, ho, _, _, _, hb11⟩; have hko11 : KeptO ownPG w6 w11 := hko10.trans (KeptO.below hb11); have HH11 := Lib.hid (has_of_owns ho); have HP211 := Lib.hid (HP210.out.below hb11); have HB11 := Lib.hid (HB10.out.trans (hb11.mono HB10.out.size)); clear ho)
    | (go_at_call 34; (with_reducible refine (pall_any _ _ _ _ _ R w11 HP211.out (by simp only [hRL]; omega)).mono ?_); rintro e w12 ⟨a12, c12, rfl, ho, _, _, _, hb12⟩; have hko12 : KeptO ownPG w6 w12 := hko11.trans (KeptO.below hb12); have HH12 := Lib.hid (has_of_owns ho); have HH112 := Lib.hid (HH11.out.below hb12); have HB12 := Lib.hid (HB11.out.trans (hb12.mono HB11.out.size)); clear ho)
    | (go_at_call 40; (with_reducible refine (refSameP_any _ _ _ _ _ _ R R w12 HH112.out hRL HH12.out hRL (by omega) (by omega)).mono ?_); rintro e w13 ⟨rfl, hb13⟩; rw [decide_eq_true rfl]; have hko13 : KeptO ownPG w6 w13 := hko12.trans (KeptO.below hb13); have HB13 := Lib.hid (HB12.out.trans (hb13.mono HB12.out.size)))); refine HK_.out _ _ (kepP_ofA) ?_; clear HK_)
  (refine tree_quiet gtA (by rfl) (by rfl) (fun K_ hK_ => ?_); go_big_quiet_op; refine hK_ _ ?_; clear hK_ K_)
  (refine tree_quiet gtA (by rfl) (by rfl) (fun K_ hK_ => ?_); go_big_quiet_op; refine hK_ _ ?_; clear hK_ K_)
  first | (refine tree_skip gtA (by rfl) ?_; dsimp only [Act.put]; simp only [List.setIfInBounds_toArray, List.set_cons_succ, List.set_cons_zero]) | (refine tree_quiet gtA (by rfl) (by rfl) (fun K_ hK_ => ?_); go_big_quiet_op; refine hK_ _ ?_; clear hK_ K_)
  first | (refine tree_skip gtA (by rfl) ?_; dsimp only [Act.put]; simp only [List.setIfInBounds_toArray, List.set_cons_succ, List.set_cons_zero]) | (refine tree_quiet gtA (by rfl) (by rfl) (fun K_ hK_ => ?_); go_big_quiet_op; refine hK_ _ ?_; clear hK_ K_)
  first | (refine tree_skip gtA (by rfl) ?_; dsimp only [Act.put]; simp only [List.setIfInBounds_toArray, List.set_cons_succ, List.set_cons_zero]) | (refine tree_run gtA (by rfl) (by rfl) (fun K_ hK_ => ?_); have HK_ := Lib.hid hK_; clear hK_; go_wp2_with (first
    | (go_at_call 15; (with_reducible refine (gnew_any aI nI cI ids w8 (HI.out.below HB8.out) HIL.out (by omega)).mono ?_); rintro e w9 ⟨gy, ay, cy, rfl, hGy, hgy, hb9⟩; have hko9 : KeptO ownPG w6 w9 := hko8.trans (KeptO.below hb9); have HGY := Lib.hid hGy; have HU9 := Lib.hid (HU8.out.below hb9); have HP19 := Lib.hid (HP18.out.below hb9); have HP29 := Lib.hid (HP28.out.below hb9); have HB9 := Lib.hid (HB8.out.trans (hb9.mono HB8.out.size)); clear hGy hgy)
    | (go_at_call 15; (with_reducible refine (gnew_any aI nI cI ids _ (HI.out.below (HB6.out.trans (Below.mono (w := w6) (by exact blw) HB6.out.size))) HIL.out (by omega)).mono ?_); rintro e w7 ⟨gx, ax, cx, rfl, hGx, hgx, hb7⟩; have hb67 : Below w6.heap.size w6 w7 := (by exact blw); have hko7 : KeptO ownPG w6 w7 := KeptO.below hb67; have HGX := Lib.hid hGx; have HM7 := Lib.hid (HM6.out.below hb67); have HU7 := Lib.hid (HU6.out.below hb67); have HP17 := Lib.hid (HP16.out.below hb67); have HP27 := Lib.hid (HP26.out.below hb67); have HB7 := Lib.hid (HB6.out.trans (hb67.mono HB6.out.size)); clear hGx hgx)
    | (go_at_call 33; (with_reducible refine (HRUN.out _ _ _ _ _ _ _ _ _ _ w7 (Nat.le_refl _) HM7.out HGX.out HP17.out HB7.out.size).mono ?_); rintro e w8 ⟨rfl, hp8, hk8⟩; have hko8 : KeptO ownPG w6 w8 := hko7.trans ⟨hk8.size, fun k cs t fz hk ho => hk8.kept k cs t fz hk (fun h => ho h.g)⟩; have HP18 := Lib.hid hp8; have HP28 := Lib.hid (HP27.out.keepP hk8 HGE.out HNE.out); have HU8 := Lib.hid (HU7.out.keep hk8 (Nat.zero_le _) (notM_Pl _ _) (ownPl_no (by decide) (by decide)) (ownPl_no (by decide) (by decide))); have HB8 := Lib.hid (HB7.out.trans hk8.below); clear hp8 hk8)
    | (go_at_call 33; (with_reducible refine (HRUN.out _ _ _ _ _ _ _ _ _ _ w9 (Nat.zero_le _) HU9.out HGY.out HP29.out HB9.out.size).mono ?_); rintro e w10 ⟨rfl, hp10, hk10⟩; have hko10 : KeptO ownPG w6 w10 := hko9.trans ⟨hk10.size, fun k cs t fz hk ho => hk10.kept k cs t fz hk (fun h => ho h.g)⟩; have HP210 := Lib.hid hp10; have HP110 := Lib.hid (HP19.out.keepP hk10 (Ne.symm HGE.out) (fun k hk h2 => HNE.out k h2 hk)); have HB10 := Lib.hid (HB9.out.trans hk10.below); clear hp10 hk10)
    | (go_at_call 34; (with_reducible refine (pall_any _ _ _ _ _ R w10 HP110.out (by simp only [hRL]; omega)).mono ?_); rintro e w11 ⟨a11, c11, rfl, ho, _, _, _, hb11⟩; have hko11 : KeptO ownPG w6 w11 := hko10.trans (KeptO.below hb11); have HH11 := Lib.hid (has_of_owns ho); have HP211 := Lib.hid (HP210.out.below hb11); have HB11 := Lib.hid (HB10.out.trans (hb11.mono HB10.out.size)); clear ho)
    | (go_at_call 34; (with_reducible refine (pall_any _ _ _ _ _ R w11 HP211.out (by simp only [hRL]; omega)).mono ?_); rintro e w12 ⟨a12, c12, rfl, ho, _, _, _, hb12⟩; have hko12 : KeptO ownPG w6 w12 := hko11.trans (KeptO.below hb12); have HH12 := Lib.hid (has_of_owns ho); have HH112 := Lib.hid (HH11.out.below hb12); have HB12 := Lib.hid (HB11.out.trans (hb12.mono HB11.out.size)); clear ho)
    | (go_at_call 40; (with_reducible refine (refSameP_any _ _ _ _ _ _ R R w12 HH112.out hRL HH12.out hRL (by omega) (by omega)).mono ?_); rintro e w13 ⟨rfl, hb13⟩; rw [decide_eq_true rfl]; have hko13 : KeptO ownPG w6 w13 := hko12.trans (KeptO.below hb13); have HB13 := Lib.hid (HB12.out.trans (hb13.mono HB12.out.size)))); refine HK_.out _ _ (kepP_ofA) ?_; clear HK_)
  first | (refine tree_skip gtA (by rfl) ?_; dsimp only [Act.put]; simp only [List.setIfInBounds_toArray, List.set_cons_succ, List.set_cons_zero]) | (refine tree_run gtA (by rfl) (by rfl) (fun K_ hK_ => ?_); have HK_ := Lib.hid hK_; clear hK_; go_wp2_with (first
    | (go_at_call 15; (with_reducible refine (gnew_any aI nI cI ids w8 (HI.out.below HB8.out) HIL.out (by omega)).mono ?_); rintro e w9 ⟨gy, ay, cy, rfl, hGy, hgy, hb9⟩; have hko9 : KeptO ownPG w6 w9 := hko8.trans (KeptO.below hb9); have HGY := Lib.hid hGy; have HU9 := Lib.hid (HU8.out.below hb9); have HP19 := Lib.hid (HP18.out.below hb9); have HP29 := Lib.hid (HP28.out.below hb9); have HB9 := Lib.hid (HB8.out.trans (hb9.mono HB8.out.size)); clear hGy hgy)
    | (go_at_call 15; (with_reducible refine (gnew_any aI nI cI ids _ (HI.out.below (HB6.out.trans (Below.mono (w := w6) (by exact blw) HB6.out.size))) HIL.out (by omega)).mono ?_); rintro e w7 ⟨gx, ax, cx, rfl, hGx, hgx, hb7⟩; have hb67 : Below w6.heap.size w6 w7 := (by exact blw); have hko7 : KeptO ownPG w6 w7 := KeptO.below hb67; have HGX := Lib.hid hGx; have HM7 := Lib.hid (HM6.out.below hb67); have HU7 := Lib.hid (HU6.out.below hb67); have HP17 := Lib.hid (HP16.out.below hb67); have HP27 := Lib.hid (HP26.out.below hb67); have HB7 := Lib.hid (HB6.out.trans (hb67.mono HB6.out.size)); clear hGx hgx)
    | (go_at_call 33; (with_reducible refine (HRUN.out _ _ _ _ _ _ _ _ _ _ w7 (Nat.le_refl _) HM7.out HGX.out HP17.out HB7.out.size).mono ?_); rintro e w8 ⟨rfl, hp8, hk8⟩; have hko8 : KeptO ownPG w6 w8 := hko7.trans ⟨hk8.size, fun k cs t fz hk ho => hk8.kept k cs t fz hk (fun h => ho h.g)⟩; have HP18 := Lib.hid hp8; have HP28 := Lib.hid (HP27.out.keepP hk8 HGE.out HNE.out); have HU8 := Lib.hid (HU7.out.keep hk8 (Nat.zero_le _) (notM_Pl _ _) (ownPl_no (by decide) (by decide)) (ownPl_no (by decide) (by decide))); have HB8 := Lib.hid (HB7.out.trans hk8.below); clear hp8 hk8)
    | (go_at_call 33; (with_reducible refine (HRUN.out _ _ _ _ _ _ _ _ _ _ w9 (Nat.zero_le _) HU9.out HGY.out HP29.out HB9.out.size).mono ?_); rintro e w10 ⟨rfl, hp10, hk10⟩; have hko10 : KeptO ownPG w6 w10 := hko9.trans ⟨hk10.size, fun k cs t fz hk ho => hk10.kept k cs t fz hk (fun h => ho h.g)⟩; have HP210 := Lib.hid hp10; have HP110 := Lib.hid (HP19.out.keepP hk10 (Ne.symm HGE.out) (fun k hk h2 => HNE.out k h2 hk)); have HB10 := Lib.hid (HB9.out.trans hk10.below); clear hp10 hk10)
    | (go_at_call 34; (with_reducible refine (pall_any _ _ _ _ _ R w10 HP110.out (by simp only [hRL]; omega)).mono ?_); rintro e w11 ⟨a11, c11, rfl, ho, _, _, _, hb11⟩; have hko11 : KeptO ownPG w6 w11 := hko10.trans (KeptO.below hb11); have HH11 := Lib.hid (has_of_owns ho); have HP211 := Lib.hid (HP210.out.below hb11); have HB11 := Lib.hid (HB10.out.trans (hb11.mono HB10.out.size)); clear ho)
    | (go_at_call 34; (with_reducible refine (pall_any _ _ _ _ _ R w11 HP211.out (by simp only [hRL]; omega)).mono ?_); rintro e w12 ⟨a12, c12, rfl, ho, _, _, _, hb12⟩; have hko12 : KeptO ownPG w6 w12 := hko11.trans (KeptO.below hb12); have HH12 := Lib.hid (has_of_owns ho); have HH112 := Lib.hid (HH11.out.below hb12); have HB12 := Lib.hid (HB11.out.trans (hb12.mono HB11.out.size)); clear ho)
    | (go_at_call 40; (with_reducible refine (refSameP_any _ _ _ _ _ _ R R w12 HH112.out hRL HH12.out hRL (by omega) (by omega)).mono ?_); rintro e w13 ⟨rfl, hb13⟩; rw [decide_eq_true rfl]; have hko13 : KeptO ownPG w6 w13 := hko12.trans (KeptO.below hb13); have HB13 := Lib.hid (HB12.out.trans (hb13.mono HB12.out.size)))); refine HK_.out _ _ (kepP_ofA) ?_; clear HK_)
  first | (refine tree_skip gtA (by rfl) ?_; dsimp only [Act.put]; simp only [List.setIfInBounds_toArray, List.set_cons_succ, List.set_cons_zero]) | (refine tree_run gtA (by rfl) (by rfl) (fun K_ hK_ => ?_); have HK_ := Lib.hid hK_; clear hK_; go_wp2_with (first
    | (go_at_call 15; (with_reducible refine (gnew_any aI nI cI ids w8 (HI.out.below HB8.out) HIL.out (by omega)).mono ?_); rintro e w9 ⟨gy, ay, cy, rfl, hGy, hgy, hb9⟩; have hko9 : KeptO ownPG w6 w9 := hko8.trans (KeptO.below hb9); have HGY := Lib.hid hGy; have HU9 := Lib.hid (HU8.out.below hb9); have HP19 := Lib.hid (HP18.out.below hb9); have HP29 := Lib.hid (HP28.out.below hb9); have HB9 := Lib.hid (HB8.out.trans (hb9.mono HB8.out.size)); clear hGy hgy)
    | (go_at_call 15; (with_reducible refine (gnew_any aI nI cI ids _ (HI.out.below (HB6.out.trans (Below.mono (w := w6) (by exact blw) HB6.out.size))) HIL.out (by omega)).mono ?_); rintro e w7 ⟨gx, ax, cx, rfl, hGx, hgx, hb7⟩; have hb67 : Below w6.heap.size w6 w7 := (by exact blw); have hko7 : KeptO ownPG w6 w7 := KeptO.below hb67; have HGX := Lib.hid hGx; have HM7 := Lib.hid (HM6.out.below hb67); have HU7 := Lib.hid (HU6.out.below hb67); have HP17 := Lib.hid (HP16.out.below hb67); have HP27 := Lib.hid (HP26.out.below hb67); have HB7 := Lib.hid (HB6.out.trans (hb67.mono HB6.out.size)); clear hGx hgx)
    | (go_at_call 33; (with_reducible refine (HRUN.out _ _ _ _ _ _ _ _ _ _ w7 (Nat.le_refl _) HM7.out HGX.out HP17.out HB7.out.size).mono ?_); rintro e w8 ⟨rfl, hp8, hk8⟩; have hko8 : KeptO ownPG w6 w8 := hko7.trans ⟨hk8.size, fun k cs t fz hk ho => hk8.kept k cs t fz hk (fun h => ho h.g)⟩; have HP18 := Lib.hid hp8; have HP28 := Lib.hid (HP27.out.keepP hk8 HGE.out HNE.out); have HU8 := Lib.hid (HU7.out.keep hk8 (Nat.zero_le _) (notM_Pl _ _) (ownPl_no (by decide) (by decide)) (ownPl_no (by decide) (by decide))); have HB8 := Lib.hid (HB7.out.trans hk8.below); clear hp8 hk8)
    | (go_at_call 33; (with_reducible refine (HRUN.out _ _ _ _ _ _ _ _ _ _ w9 (Nat.zero_le _) HU9.out HGY.out HP29.out HB9.out.size).mono ?_); rintro e w10 ⟨rfl, hp10, hk10⟩; have hko10 : KeptO ownPG w6 w10 := hko9.trans ⟨hk10.size, fun k cs t fz hk ho => hk10.kept k cs t fz hk (fun h => ho h.g)⟩; have HP210 := Lib.hid hp10; have HP110 := Lib.hid (HP19.out.keepP hk10 (Ne.symm HGE.out) (fun k hk h2 => HNE.out k h2 hk)); have HB10 := Lib.hid (HB9.out.trans hk10.below); clear hp10 hk10)
    | (go_at_call 34; (with_reducible refine (pall_any _ _ _ _ _ R w10 HP110.out (by simp only [hRL]; omega)).mono ?_); rintro e w11 ⟨a11, c11, rfl, ho, _, _, _, hb11⟩; have hko11 : KeptO ownPG w6 w11 := hko10.trans (KeptO.below hb11); have HH11 := Lib.hid (has_of_owns ho); have HP211 := Lib.hid (HP210.out.below hb11); have HB11 := Lib.hid (HB10.out.trans (hb11.mono HB10.out.size)); clear ho)
    | (go_at_call 34; (with_reducible refine (pall_any _ _ _ _ _ R w11 HP211.out (by simp only [hRL]; omega)).mono ?_); rintro e w12 ⟨a12, c12, rfl, ho, _, _, _, hb12⟩; have hko12 : KeptO ownPG w6 w12 := hko11.trans (KeptO.below hb12); have HH12 := Lib.hid (has_of_owns ho); have HH112 := Lib.hid (HH11.out.below hb12); have HB12 := Lib.hid (HB11.out.trans (hb12.mono HB11.out.size)); clear ho)
    | (go_at_call 40; (with_reducible refine (refSameP_any _ _ _ _ _ _ R R w12 HH112.out hRL HH12.out hRL (by omega) (by omega)).mono ?_); rintro e w13 ⟨rfl, hb13⟩; rw [decide_eq_true rfl]; have hko13 : KeptO ownPG w6 w13 := hko12.trans (KeptO.below hb13); have HB13 := Lib.hid (HB12.out.trans (hb13.mono HB12.out.size)))); refine HK_.out _ _ (kepP_ofA) ?_; clear HK_)
  (refine tree_quiet gtA (by rfl) (by rfl) (fun K_ hK_ => ?_); go_big_quiet_op; refine hK_ _ ?_; clear hK_ K_)
  (refine tree_quiet gtA (by rfl) (by rfl) (fun K_ hK_ => ?_); go_big_quiet_op; refine hK_ _ ?_; clear hK_ K_)
  refine tree_nil ?_
  clear hK0_
  go_wp2_with fail
  go_ret
  exact ⟨rfl, HB13.out⟩

open Go.ChangeShapes Go.WideShapes Go.ChangeAt Go.RowKit
open Go.ChangeMaps (open_string shut_string)

set_option maxRecDepth 100000 in
theorem stackTakes_walks (H : Type) (enc : TypeId × Value → H) : Walks H enc 8 [22, 23] := by
  intro W base args ds p hval hA _
  obtain ⟨v0, vs0, d0, ds0, p0, q0, hargs, rfl, rfl, h0, r0⟩ := trodAll_cons hA
  obtain ⟨v1, vs1, d1, ds1, p1, q1, rfl, rfl, rfl, h1, r1⟩ := trodAll_cons r0
  obtain ⟨rfl, rfl, rfl⟩ := trodAll_nil r1
  obtain rfl : args = #[v0, v1] := by cases args; simp_all
  obtain ⟨a0, n0, c0, x0, rfl, e0, f0, g0, j0, k0⟩ := open_bytes Try.underlying22 Try.underlying5 (by kernel_rfl) (hval 0 22 v0 rfl rfl) h0
  obtain ⟨a, n, c, ids, rfl, hl, _, _, _, hi, hz⟩ := open_ids (hval 1 23 v1 rfl rfl) h1
  exact stackTakes_walk a0 n0 c0 x0 a n c ids W e0 f0 g0 j0 hi hl hz

set_option maxRecDepth 100000 in
theorem stackTakes_lifted (os : Os) (started : os.Started) (H : Type) (enc : TypeId × Value → H) :
    ReturnsInHanded {} Try.checked os 8 .any (Rows.stackTakesSpec.pre6 enc Try.prog Try.f8 Rows.stackTakesRow.domain false) (Rows.stackTakesSpec.post enc Try.prog Try.f8 false true false false) :=
  lift_law (s := Rows.stackTakesSpec) (fn := Try.f8) started (by kernel_rfl) Try.func8
    (ChangeSpec.witness6 (enc := enc) (C := Try.checked) false ⟨#[], #[.slice none 0 0, .slice none 0 0], []⟩ 8 (by kernel_rfl) (by kernel_rfl) (by kernel_rfl) (by kernel_rfl))
    rfl rfl (fun ds h => by match ds, h with | [d0, d1], _ => rfl) (by intro t ht; simp [Try.params8] at ht; first | (subst ht; exact ⟨by kernel_rfl, of_decide_eq_true (by kernel_rfl)⟩) | (obtain rfl | rfl := ht <;> exact ⟨by kernel_rfl, of_decide_eq_true (by kernel_rfl)⟩) | (obtain rfl | rfl | rfl := ht <;> exact ⟨by kernel_rfl, of_decide_eq_true (by kernel_rfl)⟩) | (obtain rfl | rfl | rfl | rfl := ht <;> exact ⟨by kernel_rfl, of_decide_eq_true (by kernel_rfl)⟩))
    (by rw [Try.params8]; exact stackTakes_walks H enc)
theorem stackTakes_over : Rows.stackTakesRow.holds Try.pinned (OpenSpec.ofChange Rows.stackTakesSpec) :=
  OpenClaim.holds_of_wide 8 Try.f8 rfl rfl rfl rfl rfl rfl rfl ⟨rfl, rfl, rfl, rfl, rfl⟩ rfl rfl rfl rfl rfl (by kernel_rfl) Try.func8 (by kernel_rfl)
    (of_decide_eq_true (by kernel_rfl)) (by unfold Func.isWrapper; first | (rw [if_pos (by decide +kernel)]; kernel_rfl) | (rw [if_neg (by decide +kernel)]; exact ⟨rfl, rfl⟩))
    (fun os started H enc _ => stackTakes_lifted os started H enc)
theorem stackTakes_proved : Rows.StackTakesSaid := stackTakes_over
#print axioms stackTakes_proved
end Go.Proofs.Ytaladlaffglkeaa
