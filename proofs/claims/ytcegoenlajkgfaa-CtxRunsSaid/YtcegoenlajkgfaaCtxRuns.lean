
/- The walk of CtxRuns. CtxRuns returns true for every plan of a machine and lookups, and every line, and changes nothing: what any such subtable does to any line is the document's, and whether it runs out of its budget; clusters stay. No condition beside the row's own. -/
import Derived.Test.YtcegoenlajkgfaaJ22
import Derived.Test.YtcegoenlajkgfaaJ16
namespace Go.Proofs.Ytcegoenlajkgfaa
open Go.RowKit Go.Lib

set_option maxRecDepth 100000 in
set_option maxHeartbeats 12800000 in
theorem ctxRuns_walk (p : PlanL) (aC aR aE : Option Addr) (rv : List Value) (cC cR cE : Nat) (aS : Option Addr) (cS : Nat) (subs0 : List (List Nat)) (sv : List Value) (aI : Option Addr) (nI cI : Nat) (ids : List Int) (w : World) (hP : PlanHas w p aC aR rv aE) (hw : ∀ e ∈ p.ents, wfI e.1 ∧ wfI e.2.1 ∧ wfI e.2.2.1 ∧ wfI e.2.2.2)
    (hS : SubsHas w aS subs0 sv) (h16 : ∀ r ∈ subs0, ∀ x ∈ r, x ≤ 65535) (hm : subs0.length ≤ maxLen) (hi : Has w aI (iv ids)) (hil : ids.length = nI) (hiw : ∀ z ∈ ids, -9223372036854775808 ≤ z ∧ z ≤ 9223372036854775807) :
    Calls Try.prog 3 #[.agg #[.slice aC p.cls.length cC, .slice aR p.rows.length cR, .slice aE p.ents.length cE, .int .u8 (p.wide.toNat : Nat), .slice aS subs0.length cS], .slice aI nI cI] w fun e w' => e = .returned (.bool true) ∧ Below w.heap.size w w' := by
  have hAC := allocC
  have hAF := allocF
  have HSP := Lib.hid (fun W (_ : Below w.heap.size w W) => speaks15_any W)
  have hsm := fun W (hW : Below w.heap.size w W) => small15_any aC aR aE aI aS p.cls.length p.rows.length p.ents.length nI subs0.length cC cR cE cI cS (p.wide.toNat : Int) subs0 sv W (hS.below hW) rfl (by unfold maxLen at hm; omega)
  have HI := Lib.hid hi
  have HIL := Lib.hid hil
  have HIW := Lib.hid hiw
  by_cases hs : Sm15 subs0 p.cls.length p.rows.length p.ents.length subs0.length nI
  case neg =>
    have HSM := Lib.hid (fun W (hW : Below w.heap.size w W) => (hsm W hW).mono (R' := fun e w' => e = .returned (.bool false) ∧ Below W.heap.size W w') (by
      rintro e w' ⟨⟨b, rfl, hb⟩, hb2⟩
      refine ⟨?_, hb2⟩
      cases b with
      | false => rfl
      | true => exact absurd (hb.1 rfl) hs))
    clear hsm hs hP hw hS h16 hi hil hiw
    generalize p.cls.length = nC at *
    generalize p.rows.length = nR at *
    generalize p.ents.length = nE at *
    generalize subs0.length = nS at *
    generalize (p.wide.toNat : Int) = wd at *
    go_enter Try.func3, Try.ntmps3
    go_wp2_with (first | (go_at_call 12; (with_reducible refine (HSP.out _ (by exact blw)).mono ?_); rintro e w1 ⟨rfl, hb1⟩; have h1c := bc hb1; have h1f := bf hb1; have h1z := hb1.size; try simp only [World.size_alloc, World.size_drew] at h1z) | (go_at_call 13; (with_reducible refine (HSM.out _ (by exact blw)).mono ?_); rintro e w2 ⟨rfl, hb2⟩; have h2c := bc hb2; have h2f := bf hb2; have h2z := hb2.size; try simp only [World.size_alloc, World.size_drew] at h2z))
    go_ret
    exact ⟨rfl, blw⟩
  have HSM := Lib.hid (fun W (hW : Below w.heap.size w W) => (hsm W hW).mono (R' := fun e w' => e = .returned (.bool true) ∧ Below W.heap.size W w') (by
    rintro e w' ⟨⟨b, rfl, hb⟩, hb2⟩
    refine ⟨?_, hb2⟩
    rw [hb.2 hs]))
  obtain ⟨hs1, hs2, hs3, hs4, hs5, hI60⟩ := hs
  have HWR := Lib.hid (fun W (hW : Below w.heap.size w W) => write15_any p aC aR aE rv cC cR cE aS subs0.length cS subs0 sv W (hP.below hW) (by omega) (by omega) (by omega) hw (hS.below hW) rfl (by omega) (fun r hr => by have := hs1 r hr; omega) h16)
  have hn2 := ctxB_len p subs0 hs2 hs3 hs4 hs5 hs1
  generalize hbs : ctxB p subs0 = bs at *
  obtain ⟨nB, hnB⟩ : ∃ nB, nB = bs.length := ⟨_, rfl⟩
  rw [← hnB] at HWR hn2
  have HL := Lib.hid hnB.symm
  clear hsm hs1 hs2 hs3 hs4 hs5 hP hw hS h16 hi hil hiw hbs hnB
  generalize p.cls.length = nC at *
  generalize p.rows.length = nR at *
  generalize p.ents.length = nE at *
  generalize subs0.length = nS at *
  generalize (p.wide.toNat : Int) = wd at *
  by_cases hok : ∃ rs S qs, COk bs 40 rs S qs
  case neg =>
    have hno : ∀ rs S qs, ¬ COk bs 40 rs S qs := fun rs S qs h => hok ⟨rs, S, qs, h⟩
    have HRD := Lib.hid (fun a c W (hW : Has W a (bytesV bs)) (h1 : nB ≤ c) (h2 : c ≤ maxLen) => cread_none a nB c bs 40 40 rfl W hW HL.out h1 h2 (by decide) (by decide) hno)
    have HRF := Lib.hid (fun a c W (hW : Has W a (bytesV bs)) (h1 : nB ≤ c) (h2 : c ≤ maxLen) => refcread_no a nB c bs 40 40 rfl W hW HL.out h1 h2 hn2 (by decide) (by decide) hno)
    clear hok hno
    go_enter Try.func3, Try.ntmps3
    go_wp2_with (first
      | (go_at_call 12; (with_reducible refine (HSP.out _ (by exact blw)).mono ?_); rintro e w1 ⟨rfl, hb1⟩; have h1c := bc hb1; have h1f := bf hb1; have h1z := hb1.size; try simp only [World.size_alloc, World.size_drew] at h1z)
      | (go_at_call 13; (with_reducible refine (HSM.out _ (by exact blw)).mono ?_); rintro e w2 ⟨rfl, hb2⟩; have h2c := bc hb2; have h2f := bf hb2; have h2z := hb2.size; try simp only [World.size_alloc, World.size_drew] at h2z)
      | (go_at_call 14; (with_reducible refine (HWR.out _ (by exact blw)).mono ?_); rintro e w3 ⟨a1, c1, rfl, hown, k11, k12, k13, hb3⟩; have HHb := Lib.hid (has_of_owns hown); have h3z := hb3.size; clear hown)
      | (go_at_call 15; (with_reducible refine (HRD.out _ _ _ HHb.out k11 k12).mono ?_); rintro e w4 ⟨rfl, hb4⟩; have HHb4 := Lib.hid (HHb.out.below hb4); have h4z := hb4.size)
      | (go_at_call 16; (with_reducible refine (HRF.out _ _ _ HHb4.out k11 k12).mono ?_); rintro e w5 ⟨⟨a0, n0, c0, i1, i2, i3, i4, i5, i6, a7, n7, c7, a8, n8, c8, a9, n9, c9, rfl⟩, hb5⟩; have h5z := hb5.size))
    go_ret
    exact ⟨rfl, blw⟩
  obtain ⟨rs, S, qs, hok⟩ := hok
  have HRD := Lib.hid (fun a c W (hW : Has W a (bytesV bs)) (h1 : nB ≤ c) (h2 : c ≤ maxLen) => cread_some a nB c bs 40 40 rfl rs S qs W hW HL.out h1 h2 (by decide) (by decide) hok)
  have HRF := Lib.hid (fun a c W (hW : Has W a (bytesV bs)) (h1 : nB ≤ c) (h2 : c ≤ maxLen) => refcread_yes a nB c bs 40 40 rfl rs S qs W hW HL.out h1 h2 hn2 (by decide) (by decide) hok)
  have HRUN := Lib.hid (fun (Bm gt gl : Nat) (a : Option Addr) (c : Nat) (W : World) (hT : CIs Bm gt bs rs S qs W) (hG : GIs w.heap.size gl a c (newG ids) W) (hB : w.heap.size ≤ W.heap.size) => crun_any Bm gt bs 40 rs S qs w.heap.size gl a c (newG ids) W hT hok (by decide) (by decide) hG hB (newG_idsC HIW.out) (by rw [newG_length, HIL.out]; omega))
  have hnl : (newG ids).length = nI := by rw [newG_length]; exact HIL.out
  have HRR := Lib.hid (fun a c a' c' aS cS (subs : List SubD) al cl W (hq : subs.map SubD.rs = qs) (hsh : ∀ i s, subs[i]? = some s → SubHere a nB c bs 40 i s) (h : MRf a nB c bs 40 2 rs S a' W) (h1 : SubsIs 40 aS subs W) (h2 : Has W al (gv (newG ids))) (h3 : al = none → cl = 0) => by
    have hlk : lkS subs = lkC bs qs := by rw [← hq]; exact lkS_lkC hsh (by decide)
    have hsl : subs.length = qs.length := by rw [← hq, List.length_map]
    have := refctx_any a nB c bs 40 rs S a' c' aS subs.length cS subs al nI cl (newG ids) W h h1 rfl (by rw [hsl, hok.len]; exact cntC_65 _ _) (fun j hj => by rw [hsl, hok.len]; exact cntC_in bs hj) (by rw [hlk]; exact (hok.fitC (by decide)).le) h2 hnl h3 (newG_idsC HIW.out) (by omega)
    rw [hlk] at this
    exact this)
  have hclu := fun j p => newG_at bs rs (lkC bs qs) ids (j := j) (p := p)
  have hLn : (ctxD bs rs (lkC bs qs) (newG ids)).1.1.length = nI := by rw [ctxD_length, hnl]
  generalize ctxD bs rs (lkC bs qs) (newG ids) = R at *
  obtain ⟨⟨L, r1⟩, r3, r4⟩ := R
  simp only at hclu hLn HRUN HRR
  have HCLU := Lib.hid hclu
  unfold mrefV mrefA at HRF HRR
  rw [show ((2 : Nat) : Int) = 2 from rfl] at HRF HRR
  simp only [List.push_toArray, List.cons_append, List.nil_append] at HRF HRR
  clear hok hnl hclu
  go_enter Try.func3, Try.ntmps3
  go_wp2_with (first
      | (go_at_call 12; (with_reducible refine (HSP.out _ (by exact blw)).mono ?_); rintro e w1 ⟨rfl, hb1⟩; have h1c := bc hb1; have h1f := bf hb1; have h1z := hb1.size; try simp only [World.size_alloc, World.size_drew] at h1z)
      | (go_at_call 13; (with_reducible refine (HSM.out _ (by exact blw)).mono ?_); rintro e w2 ⟨rfl, hb2⟩; have h2c := bc hb2; have h2f := bf hb2; have h2z := hb2.size; try simp only [World.size_alloc, World.size_drew] at h2z)
      | (go_at_call 14; (with_reducible refine (HWR.out _ (by exact blw)).mono ?_); rintro e w3 ⟨a1, c1, rfl, hown, k11, k12, k13, hb3⟩; have HHb := Lib.hid (has_of_owns hown); have HB3 := Lib.hid (show Below w.heap.size w w3 from by exact blw); have h3z := hb3.size; clear hown)
      | (go_at_call 15; (with_reducible refine (HRD.out _ _ _ HHb.out k11 k12).mono ?_); rintro e w4 ⟨gt, rfl, hT, hb4⟩; have HT := Lib.hid hT; have HHb4 := Lib.hid (HHb.out.below hb4); have HB4 := Lib.hid (HB3.out.trans (hb4.mono HB3.out.size)); clear hT hb4)
      | (go_at_call 16; (with_reducible refine (HRF.out _ _ _ HHb4.out k11 k12).mono ?_); rintro e w5 ⟨a5, c5, aS5, cS5, subs, hq5, rfl, hM5, hS5, hH5, hb5⟩; have HM5 := Lib.hid hM5; have HS5 := Lib.hid hS5; have HQ5 := Lib.hid hq5; have HH5 := Lib.hid hH5; have HT5 := Lib.hid (HT.out.below hb5); have HB5 := Lib.hid (HB4.out.trans (hb5.mono HB4.out.size)); clear hM5 hS5 hq5 hH5 hb5))
  have hrr := fun al cl W (h : MRf a1 nB c1 bs 40 2 rs S a5 W) (h1 : SubsIs 40 aS5 subs W) h2 h3 => HRR.out a1 c1 a5 c5 aS5 cS5 subs al cl W HQ5.out HH5.out h h1 h2 h3
  clear HRR
  generalize num bs 0 4 = P0 at *
  generalize num bs 4 4 = P4 at *
  generalize num bs 8 4 = P8 at *
  generalize num bs 12 4 = P12 at *
  generalize needE bs S = NE at *
  generalize adv a1 c1 P4 = A4 at *
  generalize rs.length = LR at *
  generalize subs.length = LS at *
  have HRR5 := Lib.hid hrr
  clear hrr
  obtain ⟨V, hV⟩ : ∃ V, V = w5.alloc (Obj.cells #[.slice a1 nB c1, .int .i64 (P0 : Nat), .int .i64 (P8 : Nat), .int .i64 (P12 : Nat), .int .i64 (S : Nat), .int .i64 (NE : Nat), .int .i64 2, .slice A4 (nB - P4) (c1 - P4), .slice a5 LR c5, .slice aS5 LS cS5] 45) := ⟨_, rfl⟩
  have hbV : Below w5.heap.size w5 V := by rw [hV]; exact balloc (brefl w5) _
  have x8 : V.heap[w5.heap.size]? = some (.cells #[.slice a1 nB c1, .int .i64 (P0 : Nat), .int .i64 (P8 : Nat), .int .i64 (P12 : Nat), .int .i64 (S : Nat), .int .i64 (NE : Nat), .int .i64 2, .slice A4 (nB - P4) (c1 - P4), .slice a5 LR c5, .slice aS5 LS cS5] 45 (0, 0)) := by rw [hV]; exact (heap_push _ _ _).trans (if_pos rfl)
  rw [← hV]
  have HBV := Lib.hid (HB5.out.trans (hbV.mono HB5.out.size))
  have HTV := Lib.hid (HT5.out.below hbV)
  have HMV := Lib.hid (HM5.out.below hbV)
  have HSV := Lib.hid (HS5.out.below hbV)
  have X8 := Lib.hid x8
  have l8 := (Array.getElem?_eq_some_iff.1 x8).1
  clear hV hbV x8
  refine (gnew_any aI nI cI ids V (HI.out.below HBV.out) HIL.out (by omega)).mono ?_
  rintro e w8 ⟨gl, a8, c8, rfl, hG, hgl, hb8⟩
  have HT8 := Lib.hid (HTV.out.below hb8)
  have HM8 := Lib.hid (HMV.out.below hb8)
  have HS8 := Lib.hid (HSV.out.below hb8)
  have HB8 := Lib.hid (HBV.out.trans (hb8.mono HBV.out.size))
  have HG8 := Lib.hid (hG.mono HBV.out.size)
  have HLT := Lib.hid (fun k hk => (hG.rowIn k hk).1)
  have Y8 := Lib.hid ((hb8.block _ l8).trans X8.out)
  have HZ8 := Lib.hid hb8.size
  clear hG hb8 hgl l8
  go_wp2_with (go_at_call 18; (with_reducible refine (HRUN.out _ _ _ _ _ _ HT8.out HG8.out HB8.out.size).mono ?_); rintro e w9 ⟨rfl, ⟨a9, c9, hG, _⟩, hk9⟩; have HG9 := Lib.hid hG; have HK9 := Lib.hid hk9; have HB9 := Lib.hid (HB8.out.trans hk9.below); clear hG hk9)
  have HKO := HK9.out.kepO
  have hvz := HBV.out.size
  have h8z := HB8.out.size
  have hown9 : ∀ k t, k < V.heap.size → ¬ ownA (a8.map (·.block)) (w8.heap.size + 1 + 1) k t := fun k t hk h => by
    rcases h with ⟨_, h⟩ | ⟨_, h⟩
    · have := HLT.out k h; omega
    · have := HZ8.out; omega
  have HM9 := Lib.hid (HMV.out.keptLt HM8.out HKO hown9)
  have HS9 := Lib.hid (HSV.out.keptLt HS8.out HKO hown9)
  have x8 := (HKO.2 _ _ _ _ Y8.out (ownA_no (by decide) (by decide) _)).trans Y8.out
  have q8 := fun o => cell_of_heap x8 o
  have f8 := fun o => froz_of_heap x8 o
  have l8 := (Array.getElem?_eq_some_iff.1 x8).1
  have hI9 := HI.out.below HB9.out
  have HNW := Lib.hid (fun W (hW : Below w9.heap.size w9 W) => refNewG_any aI nI cI ids W (hI9.below hW) HIL.out (by omega))
  have HRR9 := Lib.hid (fun W (hW : Below w9.heap.size w9 W) al cl h2 h3 => HRR5.out al cl W (HM9.out.below hW) (HS9.out.below hW) h2 h3)
  have HZ9 := Lib.hid HB9.out
  clear HKO x8 hI9 HRR5 hvz h8z hown9
  refine wp_region_tree (.step 0 (.step 1 (.step 2 (.narrow (.step 3 (.narrow (.step 4 (.step 5 (.step 6 (.step 7 (.step 8 .nil))))))))))) (by kernel_rfl) (by kernel_rfl) (by kernel_rfl) (by kernel_rfl) (by intro _ _ d_ _ _ h_; cases d_ <;> first | exact h_ | (dsimp +zetaDelta only at h_ ⊢; exact h_)) (fun w' => ∃ p : Wld w9 [], w' = p.val) (wld_start _ _) ?_
  have hG_ := @wldC w9
  (refine tree_quiet (by simp only [List.getElem?_toArray, List.getElem?_cons_succ, List.getElem?_cons_zero]; rfl) (by rfl) (by rfl) (fun K_ hK_ => ?_); go_big_quiet_op; refine hK_ _ ?_; clear hK_ K_)
  (refine tree_quiet (by simp only [List.getElem?_toArray, List.getElem?_cons_succ, List.getElem?_cons_zero]; rfl) (by rfl) (by rfl) (fun K_ hK_ => ?_); go_big_quiet_op; refine hK_ _ ?_; clear hK_ K_)
  (refine tree_run (by simp only [List.getElem?_toArray, List.getElem?_cons_succ, List.getElem?_cons_zero]; rfl) (by rfl) (by rfl) (fun K_ hK_ => ?_); have HK_ := Lib.hid hK_; clear hK_; go_wp2_with (first | (go_at_call 20; (with_reducible refine (HNW.out _ (by exact blw)).mono ?_); rintro e w10 ⟨a10, c10, rfl, ho10, hb10⟩; have HH10 := Lib.hid (has_of_owns ho10); have HA10 := Lib.hid (owns_slice ho10); have h10z := hb10.size; clear ho10) | (go_at_call 19; (with_reducible refine (HRR9.out w10 (by exact blw) a10 c10 (by exact HH10.out) (by obtain ⟨_, _, e, _, _, h3⟩ := HA10.out; injection e with e1 e2 e3; subst e1 e3; exact h3)).mono ?_); rintro e w11 ⟨a11, c11, rfl, hh11, hb11⟩; have HH11 := Lib.hid hh11; have h11z := hb11.size; clear hh11)); refine HK_.out _ _ (wld_ofA) ?_; clear HK_)
  refine tree_move (by repeat (first | with_reducible exact same_below (brefl _) | with_reducible exact same_below (bdrew1 (brefl _)) | with_reducible assumption | with_reducible refine same_drew ?_ | (with_reducible refine same_set ?_ (by first | (left; simp; done) | (right; simp; done) | (right; simp; omega)) _) | with_reducible refine same_then ?_ (by assumption) | with_reducible refine same_alloc ?_ _ | exact same_below (brefl _) | exact same_realloc (by simp) | exact same_below (bdrew1 (brefl _)) | assumption | refine same_drew ?_ | refine same_then ?_ (by assumption) | refine same_alloc ?_ _ | (refine same_set ?_ (by first | (left; simp; done) | (right; simp; done) | (right; simp; omega)) _))) ?_; clear hG_; intro hG_
  (refine tree_run (by simp only [List.getElem?_toArray, List.getElem?_cons_succ, List.getElem?_cons_zero]; rfl) (by rfl) (by rfl) (fun K_ hK_ => ?_); have HK_ := Lib.hid hK_; clear hK_; go_wp2_with (first | (go_at_call 20; (with_reducible refine (HNW.out _ (by exact blw)).mono ?_); rintro e w10 ⟨a10, c10, rfl, ho10, hb10⟩; have HH10 := Lib.hid (has_of_owns ho10); have HA10 := Lib.hid (owns_slice ho10); have h10z := hb10.size; clear ho10) | (go_at_call 19; (with_reducible refine (HRR9.out w10 (by exact blw) a10 c10 (by exact HH10.out) (by obtain ⟨_, _, e, _, _, h3⟩ := HA10.out; injection e with e1 e2 e3; subst e1 e3; exact h3)).mono ?_); rintro e w11 ⟨a11, c11, rfl, hh11, hb11⟩; have HH11 := Lib.hid hh11; have h11z := hb11.size; clear hh11)); refine HK_.out _ _ (wld_ofA) ?_; clear HK_)
  refine tree_move (by repeat (first | with_reducible exact same_below (brefl _) | with_reducible exact same_below (bdrew1 (brefl _)) | with_reducible assumption | with_reducible refine same_drew ?_ | (with_reducible refine same_set ?_ (by first | (left; simp; done) | (right; simp; done) | (right; simp; omega)) _) | with_reducible refine same_then ?_ (by assumption) | with_reducible refine same_alloc ?_ _ | exact same_below (brefl _) | exact same_realloc (by simp) | exact same_below (bdrew1 (brefl _)) | assumption | refine same_drew ?_ | refine same_then ?_ (by assumption) | refine same_alloc ?_ _ | (refine same_set ?_ (by first | (left; simp; done) | (right; simp; done) | (right; simp; omega)) _))) ?_; clear hG_; intro hG_
  (refine tree_quiet (by simp only [List.getElem?_toArray, List.getElem?_cons_succ, List.getElem?_cons_zero]; rfl) (by rfl) (by rfl) (fun K_ hK_ => ?_); go_big_quiet_op; refine hK_ _ ?_; clear hK_ K_)
  (refine tree_quiet (by simp only [List.getElem?_toArray, List.getElem?_cons_succ, List.getElem?_cons_zero]; rfl) (by rfl) (by rfl) (fun K_ hK_ => ?_); go_big_quiet_op; refine hK_ _ ?_; clear hK_ K_)
  (refine tree_quiet (by simp only [List.getElem?_toArray, List.getElem?_cons_succ, List.getElem?_cons_zero]; rfl) (by rfl) (by rfl) (fun K_ hK_ => ?_); go_big_quiet_op; refine hK_ _ ?_; clear hK_ K_)
  (refine tree_quiet (by simp only [List.getElem?_toArray, List.getElem?_cons_succ, List.getElem?_cons_zero]; rfl) (by rfl) (by rfl) (fun K_ hK_ => ?_); go_big_quiet_op; refine hK_ _ ?_; clear hK_ K_)
  (refine tree_quiet (by simp only [List.getElem?_toArray, List.getElem?_cons_succ, List.getElem?_cons_zero]; rfl) (by rfl) (by rfl) (fun K_ hK_ => ?_); go_big_quiet_op; refine hK_ _ ?_; clear hK_ K_)
  refine tree_nil ?_
  clear hG_
  have hb9 : Below w9.heap.size w9 w11 := (by exact blw)
  have HG11 := Lib.hid (HG9.out.below hb9)
  have HB11 := Lib.hid (HZ9.out.trans (hb9.mono HZ9.out.size))
  have HGL := Lib.hid (show Calls Try.prog 21 #[.pointer (some ⟨gl, 0, none⟩)] w11 fun e w' => ∃ a' c', e = .returned (.slice a' nI c') ∧ w'.ownsRow w11.heap.size 57 2 (.slice a' nI c') nI (gv L) ∧ nI ≤ c' ∧ c' ≤ maxLen ∧ (a' = none → c' = 0) ∧ Below w11.heap.size w11 w' from hLn ▸ gglyphs_any w.heap.size gl a9 c9 L w11 HG11.out (by rw [hLn]; omega))
  clear hb9 hb10 hb11 q8 f8 l8
  go_wp2_with (go_at_call 21; (with_reducible refine HGL.out.mono ?_); rintro e w12 ⟨a12, c12, rfl, ho, _, _, _, hb12⟩; have HO12 := Lib.hid ho; have HH11' := Lib.hid (HH11.out.below hb12); have HB12 := Lib.hid (HB11.out.trans (hb12.mono HB11.out.size)); clear ho hb12)
  go_loopw [68] (fun i wr => ∃ j : Nat, j ≤ nI ∧ i = .int .i64 (j : Nat) ∧ Below w12.heap.size w12 wr) (fun i _ => nI - (Go.RowKit.intOf i).toNat)
  case atStart => exact ⟨0, Nat.zero_le _, rfl, Below.refl _ _⟩
  case round =>
    obtain ⟨j, hj, rfl, hb⟩ := hrel
    rename World => wr
    have HBR := Lib.hid hb
    have HOR := Lib.hid (owns_below HO12.out hb (Nat.le_refl _))
    have HLN := Lib.hid hLn
    clear hb
    by_cases hlt : j < nI
    · obtain ⟨gi, p, rfl, hgi, hgz, hp, hc1, hc2, _, _, _, _⟩ := grow_at HOR.out HLN.out hlt
      have hp2 := HCLU.out j p hp
      obtain ⟨p1, p2⟩ := p
      simp only at hp2 hc1 hc2
      subst hp2
      have d1 : (((j : Nat) : Int) != (j : Int)) = false := by simp
      clear hp
      go_wp2_with fail
      go_roundw
      case rel => exact ⟨j + 1, hlt, by go_num, HBR.out.trans (balloc (brefl _) _ |>.mono HBR.out.size)⟩
      case measure => simp only [Go.RowKit.intOf]; omega
    · obtain rfl : nI = j := by omega
      have HHG := Lib.hid (has_of_owns HOR.out)
      have HHL := Lib.hid (HH11'.out.below HBR.out)
      have HBW := Lib.hid (HB12.out.trans (HBR.out.mono HB12.out.size))
      have HSA := Lib.hid (refSameG_any a12 a11 nI c12 nI c11 L L wr HHG.out HLN.out HHL.out HLN.out (by omega) (by omega))
      rw [decide_eq_true rfl] at HSA
      clear hLn hlt
      go_wp2_with (go_at_call 22; (with_reducible refine HSA.out.mono ?_); rintro e w13 ⟨rfl, hb13⟩; have HB13 := Lib.hid (HBW.out.trans (hb13.mono HBW.out.size)); clear hb13)
      go_ret
      exact ⟨rfl, HB13.out⟩

open Go.ChangeShapes Go.WideShapes Go.ChangeAt Go.RowKit
open Go.ChangeMaps (open_string shut_string)

set_option maxRecDepth 100000 in
theorem ctxRuns_walks (H : Type) (enc : TypeId × Value → H) : Walks H enc 3 [29, 30] := by
  intro W base args ds p hval hA _
  obtain ⟨v0, vs0, d0, ds0, p0, q0, hargs, rfl, rfl, h0, r0⟩ := trodAll_cons hA
  obtain ⟨v1, vs1, d1, ds1, p1, q1, rfl, rfl, rfl, h1, r1⟩ := trodAll_cons r0
  obtain ⟨rfl, rfl, rfl⟩ := trodAll_nil r1
  obtain rfl : args = #[v0, v1] := by cases args; simp_all
  obtain ⟨p, aC, aR, aE, rv, cC, cR, cE, aS, cS, subs, sv, rfl, hP, hw, _, hS, h16, hm⟩ := open_plan15 (hval 0 29 v0 rfl rfl) h0
  obtain ⟨a, n, c, ids, rfl, hl, _, _, _, hi, hz⟩ := open_ids (hval 1 30 v1 rfl rfl) h1
  exact ctxRuns_walk p aC aR aE rv cC cR cE aS cS subs sv a n c ids W hP hw hS h16 hm hi hl hz

set_option maxRecDepth 100000 in
theorem ctxRuns_lifted (os : Os) (started : os.Started) (H : Type) (enc : TypeId × Value → H) :
    ReturnsInHanded {} Try.checked os 3 .any (Rows.ctxRunsSpec.pre6 enc Try.prog Try.f3 Rows.ctxRunsRow.domain false) (Rows.ctxRunsSpec.post enc Try.prog Try.f3 false true false false) :=
  lift_law (s := Rows.ctxRunsSpec) (fn := Try.f3) started (by kernel_rfl) Try.func3
    (ChangeSpec.witness6 (enc := enc) (C := Try.checked) false ⟨#[], #[.agg #[.slice none 0 0, .slice none 0 0, .slice none 0 0, .int .u8 0, .slice none 0 0], .slice none 0 0], []⟩ 8 (by kernel_rfl) (by kernel_rfl) (by kernel_rfl) (by kernel_rfl))
    rfl rfl (fun ds h => by match ds, h with | [d0, d1], _ => rfl) (by intro t ht; simp [Try.params3] at ht; first | (subst ht; exact ⟨by kernel_rfl, of_decide_eq_true (by kernel_rfl)⟩) | (obtain rfl | rfl := ht <;> exact ⟨by kernel_rfl, of_decide_eq_true (by kernel_rfl)⟩) | (obtain rfl | rfl | rfl := ht <;> exact ⟨by kernel_rfl, of_decide_eq_true (by kernel_rfl)⟩) | (obtain rfl | rfl | rfl | rfl := ht <;> exact ⟨by kernel_rfl, of_decide_eq_true (by kernel_rfl)⟩))
    (by rw [Try.params3]; exact ctxRuns_walks H enc)
theorem ctxRuns_over : Rows.ctxRunsRow.holds Try.pinned (OpenSpec.ofChange Rows.ctxRunsSpec) :=
  OpenClaim.holds_of_wide 3 Try.f3 rfl rfl rfl rfl rfl rfl rfl ⟨rfl, rfl, rfl, rfl, rfl⟩ rfl rfl rfl rfl rfl (by kernel_rfl) Try.func3 (by kernel_rfl)
    (of_decide_eq_true (by kernel_rfl)) (by unfold Func.isWrapper; first | (rw [if_pos (by decide +kernel)]; kernel_rfl) | (rw [if_neg (by decide +kernel)]; exact ⟨rfl, rfl⟩))
    (fun os started H enc _ => ctxRuns_lifted os started H enc)
theorem ctxRuns_proved : Rows.CtxRunsSaid := ctxRuns_over
#print axioms ctxRuns_proved
end Go.Proofs.Ytcegoenlajkgfaa
