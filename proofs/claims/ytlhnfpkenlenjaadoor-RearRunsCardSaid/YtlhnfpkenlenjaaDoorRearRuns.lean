
/- The walk of RearRuns. RearRuns returns true for every plan and every line, and changes nothing: what a subtable does to a line is the document's, and whether it runs out of its budget. Condition: the table of verbs lies in memory. -/
import Derived.Test.YtlhnfpkenlenjaaDoorJ20
import Derived.Test.YtlhnfpkenlenjaaDoorJ21
import Derived.Test.YtlhnfpkenlenjaaDoorJ15
import Derived.Test.YtlhnfpkenlenjaaDoorJ19
import Derived.Test.YtlhnfpkenlenjaaDoorJ18
import Derived.Test.YtlhnfpkenlenjaaDoorTie
import Derived.Test.YtlhnfpkenlenjaaDoorCards
import Derived.SevenTiedAt
namespace Go.Proofs.YtlhnfpkenlenjaaDoor
open Go.RowKit Go.Lib

theorem GIs.within {B g c : Nat} {a : Option Addr} {l : List (Int × Int)} {w : World} (h : GIs B g a c l w) : ∀ k, a.map (·.block) = some k → B ≤ k ∧ k < w.heap.size := by
  intro k hk
  rcases h.row.2 with ⟨hv, _⟩ | ⟨b, cap, cur, hv, hg, hh, r⟩
  · injection hv with hv _ _
    rw [hv] at hk
    cases hk
  · injection hv with hv _ _
    rw [hv] at hk
    injection hk with hk
    simp only at hk
    subst hk
    exact ⟨hg, (Array.getElem?_eq_some_iff.1 hh).1⟩
set_option maxRecDepth 100000 in
set_option maxHeartbeats 6400000 in
theorem rearRuns_walk (p : PlanL) (aC aR aE : Option Addr) (rv : List Value) (cC cR cE : Nat) (aI : Option Addr) (nI cI : Nat) (ids : List Int) (w : World) (h : PlanHas w p aC aR rv aE) (hwf : ∀ e ∈ p.ents, wfI e.1 ∧ wfI e.2.1 ∧ wfI e.2.2.1 ∧ wfI e.2.2.2)
    (hi : Has w aI (iv ids)) (hil : ids.length = nI) (hiw : ∀ z ∈ ids, -9223372036854775808 ≤ z ∧ z ≤ 9223372036854775807) (hV : VerbsIn w) :
    Calls Tryd.prog 3 #[.agg #[.slice aC p.cls.length cC, .slice aR p.rows.length cR, .slice aE p.ents.length cE, .int .u8 (p.wide.toNat : Nat)], .slice aI nI cI] w fun e w' => e = .returned (.bool true) ∧ Below w.heap.size w w' := by
  have hAC := allocC
  have hAF := allocF
  have HV := Lib.hid hV
  have HSP := Lib.hid (fun W (hW : Below w.heap.size w W) => speaks14_any W (hV.below hW))
  have hpn : 4 ≤ p.n ∧ p.n ≤ 11 := by unfold PlanL.n; omega
  have hlen := planB_length p 0 0 (by decide)
  obtain ⟨bs, hbs⟩ : ∃ bs, bs = planB p 0 0 := ⟨_, rfl⟩
  obtain ⟨nB, hnB⟩ : ∃ nB, nB = bs.length := ⟨_, rfl⟩
  have hWRS : ∀ W, Below w.heap.size w W → p.cls.length ≤ 40 ∧ p.rows.length ≤ 20 ∧ p.ents.length ≤ 40 ∧ nI ≤ 60 → Calls Tryd.prog 10 #[.agg #[.slice aC p.cls.length cC, .slice aR p.rows.length cR, .slice aE p.ents.length cE, .int .u8 (p.wide.toNat : Nat)], .int .i64 0, .int .i64 0] W fun e w' => ∃ a' c', e = .returned (.slice a' nB c') ∧ w'.ownsRow W.heap.size 5 1 (.slice a' nB c') nB (bytesV bs) ∧ nB ≤ c' ∧ c' ≤ maxLen ∧ (a' = none → c' = 0) ∧ Below W.heap.size W w' := by
    intro W hW hs
    subst hnB hbs
    exact write_any p 0 0 0 0 rfl rfl aC aR aE rv cC cR cE W (h.below hW) (by omega) (by omega) (by omega) (by omega) (by decide) hwf
  rw [← hbs, ← hnB] at hlen
  have HL := Lib.hid hnB.symm
  clear hbs hnB h hwf
  have hmul : p.rows.length ≤ 20 → p.rows.length * p.n ≤ 20 * 11 := fun hr => Nat.mul_le_mul hr hpn.2
  generalize p.rows.length = nR at *
  generalize p.cls.length = nC at *
  generalize p.ents.length = nE at *
  generalize p.wide.toNat = wy at *
  generalize p.n = C at *
  have HI := Lib.hid hi
  have HIL := Lib.hid hil
  have HIW := Lib.hid hiw
  clear hi hil hiw
  by_cases hs : nC ≤ 40 ∧ nR ≤ 20 ∧ nE ≤ 40 ∧ nI ≤ 60
  case neg =>
    have HSM := Lib.hid (fun W => small14_no aC aR aE aI nC nR nE nI cC cR cE cI (wy : Int) W hs)
    clear hWRS hlen hmul hs hV
    go_enter Tryd.func3, Tryd.ntmps3
    go_wp2_with (first | (go_at_call 8; (with_reducible refine (HSP.out _ (by exact blw)).mono ?_); rintro e w1 ⟨rfl, hb1⟩; have h1c := bc hb1; have h1f := bf hb1; have h1z := hb1.size; try simp only [World.size_alloc, World.size_drew] at h1z) | (go_at_call 9; (with_reducible refine (HSM.out _).mono ?_); rintro e w2 ⟨rfl, hb2⟩; have h2c := bc hb2; have h2f := bf hb2; have h2z := hb2.size; try simp only [World.size_alloc, World.size_drew] at h2z))
    go_ret
    exact ⟨rfl, blw⟩
  have hn2 : nB ≤ 2000 := by
    have := hmul hs.2.1
    omega
  have hI60 : nI ≤ 60 := hs.2.2.2
  have HSM := Lib.hid (fun W => small14_yes aC aR aE aI nC nR nE nI cC cR cE cI (wy : Int) W hs)
  have HWR := Lib.hid (fun W hW => hWRS W hW hs)
  clear hWRS hlen hmul hs hV
  by_cases hok : ∃ rs S, MOk bs 40 0 rs S
  case neg =>
    have HRD := Lib.hid (fun a c W (hW : Has W a (bytesV bs)) (h1 : nB ≤ c) (h2 : c ≤ maxLen) => rread_none a nB c bs 40 40 rfl W hW HL.out h1 h2 (by decide) (by decide) (fun rs S hr => hok ⟨rs, S, hr⟩))
    have HRF := Lib.hid (fun a c W (hW : Has W a (bytesV bs)) (h1 : nB ≤ c) (h2 : c ≤ maxLen) => refread_no a nB c bs 40 0 40 0 rfl rfl W hW HL.out h1 h2 hn2 (by decide) (by decide) (by decide) (fun rs S hr => hok ⟨rs, S, hr⟩))
    unfold zeroMV at HRF
    clear hok
    go_enter Tryd.func3, Tryd.ntmps3
    go_wp2_with (first
      | (go_at_call 8; (with_reducible refine (HSP.out _ (by exact blw)).mono ?_); rintro e w1 ⟨rfl, hb1⟩; have h1c := bc hb1; have h1f := bf hb1; have h1z := hb1.size; try simp only [World.size_alloc, World.size_drew] at h1z)
      | (go_at_call 9; (with_reducible refine (HSM.out _).mono ?_); rintro e w2 ⟨rfl, hb2⟩; have h2c := bc hb2; have h2f := bf hb2; have h2z := hb2.size; try simp only [World.size_alloc, World.size_drew] at h2z)
      | (go_at_call 10; (with_reducible refine (HWR.out _ (by exact blw)).mono ?_); rintro e w3 ⟨a1, c1, rfl, hown, k11, k12, k13, hb3⟩; have HHb := Lib.hid (has_of_owns hown); have h3z := hb3.size; clear hown)
      | (go_at_call 11; (with_reducible refine (HRD.out _ _ _ HHb.out k11 k12).mono ?_); rintro e w4 ⟨rfl, hb4⟩; have HHb4 := Lib.hid (HHb.out.below hb4); have h4z := hb4.size)
      | (go_at_call 12; (with_reducible refine (HRF.out _ _ _ HHb4.out k11 k12).mono ?_); rintro e w5 ⟨rfl, hb5⟩; have h5z := hb5.size))
    go_ret
    exact ⟨rfl, blw⟩
  obtain ⟨rs, S, hok⟩ := hok
  have HRD := Lib.hid (fun a c W (hW : Has W a (bytesV bs)) (h1 : nB ≤ c) (h2 : c ≤ maxLen) => rread_some a nB c bs 40 40 rfl rs S W hW HL.out h1 h2 (by decide) (by decide) hok)
  have HRF := Lib.hid (fun a c W (hW : Has W a (bytesV bs)) (h1 : nB ≤ c) (h2 : c ≤ maxLen) => refread_yes a nB c bs 40 0 40 0 rfl rfl rs S W hW HL.out h1 h2 hn2 (by decide) (by decide) (by decide) hok)
  have HRUN := Lib.hid (fun (Bm gt gl : Nat) (a : Option Addr) (c : Nat) (W : World) (hT : TIs Bm gt bs rs S W) (hG : GIs w.heap.size gl a c (newG ids) W) (hV : VerbsIn W) (hB : w.heap.size ≤ W.heap.size) (hBl : w.heap.size ≤ gl) (hVB : 0 < w.heap.size) => rrun_new w.heap.size gt gl bs rs S a c ids W (Bm := Bm) hT hok (by rw [HL.out]; exact hn2) hG hV hB hBl hVB HIW.out (by rw [HIL.out]; omega))
  have hnl : (newG ids).length = nI := by rw [newG_length]; exact HIL.out
  have HRR := Lib.hid (fun a c a' c' al cl W (h : MRf a nB c bs 40 0 rs S a' W) (h2 : Has W al (gv (newG ids))) (h3 : al = none → cl = 0) => refrear_any a nB c bs 40 rs S a' c' al nI cl (newG ids) W h h2 hnl h3 (newG_ids HIW.out) (by omega))
  have hkeep := rearD_keeps bs rs ids
  generalize rearD bs rs (newG ids) = R at *
  obtain ⟨⟨L, r1, r2⟩, r3, r4⟩ := R
  simp only at hkeep HRUN HRR
  have hLn : L.length = nI := hkeep.len.trans HIL.out
  unfold mrefV mrefA at HRF HRR
  clear hok hkeep hnl
  go_enter Tryd.func3, Tryd.ntmps3
  go_wp2_with (first
      | (go_at_call 8; (with_reducible refine (HSP.out _ (by exact blw)).mono ?_); rintro e w1 ⟨rfl, hb1⟩; have h1c := bc hb1; have h1f := bf hb1; have h1z := hb1.size; try simp only [World.size_alloc, World.size_drew] at h1z)
      | (go_at_call 9; (with_reducible refine (HSM.out _).mono ?_); rintro e w2 ⟨rfl, hb2⟩; have h2c := bc hb2; have h2f := bf hb2; have h2z := hb2.size; try simp only [World.size_alloc, World.size_drew] at h2z)
      | (go_at_call 10; (with_reducible refine (HWR.out _ (by exact blw)).mono ?_); rintro e w3 ⟨a1, c1, rfl, hown, k11, k12, k13, hb3⟩; have HHb := Lib.hid (has_of_owns hown); have HB3 := Lib.hid (show Below w.heap.size w w3 from by exact blw); have h3z := hb3.size; clear hown)
      | (go_at_call 11; (with_reducible refine (HRD.out _ _ _ HHb.out k11 k12).mono ?_); rintro e w4 ⟨gt, rfl, hT, hb4⟩; have HT := Lib.hid hT; have HHb4 := Lib.hid (HHb.out.below hb4); have HB4 := Lib.hid (HB3.out.trans (hb4.mono HB3.out.size)); clear hT hb4)
      | (go_at_call 12; (with_reducible refine (HRF.out _ _ _ HHb4.out k11 k12).mono ?_); rintro e w5 ⟨a5, c5, rfl, hM5, hb5⟩; have HM5 := Lib.hid hM5; have HT5 := Lib.hid (HT.out.below hb5); have HB5 := Lib.hid (HB4.out.trans (hb5.mono HB4.out.size)); clear hM5 hb5))
  have hrr := fun al cl W (h : MRf a1 nB c1 bs 40 0 rs S a5 W) h2 h3 => HRR.out a1 c1 a5 c5 al cl W h h2 h3
  rw [show ((0 : Nat) : Int) = 0 from rfl] at hrr
  clear HRR
  generalize num bs 0 4 = P0 at *
  generalize num bs 4 4 = P4 at *
  generalize num bs 8 4 = P8 at *
  generalize num bs 12 4 = P12 at *
  generalize needE bs S = NE at *
  generalize adv a1 c1 P4 = A4 at *
  generalize rs.length = LR at *
  have HRR5 := Lib.hid hrr
  clear hrr
  obtain ⟨V, hV⟩ : ∃ V, V = w5.alloc (Obj.cells #[.slice a1 nB c1, .int .i64 (P0 : Nat), .int .i64 (P8 : Nat), .int .i64 (P12 : Nat), .int .i64 (S : Nat), .int .i64 (NE : Nat), .int .i64 0, .slice A4 (nB - P4) (c1 - P4), .slice a5 LR c5] 39) := ⟨_, rfl⟩
  have hbV : Below w5.heap.size w5 V := by rw [hV]; exact balloc (brefl w5) _
  have x8 : V.heap[w5.heap.size]? = some (.cells #[.slice a1 nB c1, .int .i64 (P0 : Nat), .int .i64 (P8 : Nat), .int .i64 (P12 : Nat), .int .i64 (S : Nat), .int .i64 (NE : Nat), .int .i64 0, .slice A4 (nB - P4) (c1 - P4), .slice a5 LR c5] 39 (0, 0)) := by rw [hV]; exact (heap_push _ _ _).trans (if_pos rfl)
  rw [← hV]
  have HBV := Lib.hid (HB5.out.trans (hbV.mono HB5.out.size))
  have HTV := Lib.hid (HT5.out.below hbV)
  have HMV := Lib.hid (HM5.out.below hbV)
  have X8 := Lib.hid x8
  have l8 := (Array.getElem?_eq_some_iff.1 x8).1
  clear hV hbV x8
  refine (gnew_any aI nI cI ids V (HI.out.below HBV.out) HIL.out (by omega)).mono ?_
  rintro e w8 ⟨gl, a8, c8, rfl, hG, hgl, hb8⟩
  have HT8 := Lib.hid (HTV.out.below hb8)
  have HM8 := Lib.hid (HMV.out.below hb8)
  have HB8 := Lib.hid (HBV.out.trans (hb8.mono HBV.out.size))
  have hgl8 : w.heap.size ≤ gl := Nat.le_trans HBV.out.size hgl
  have HG8 := Lib.hid (hG.mono HBV.out.size)
  have HLT := Lib.hid (fun k hk => (hG.within k hk).1)
  have Y8 := Lib.hid ((hb8.block _ l8).trans X8.out)
  have HZ8 := Lib.hid hb8.size
  clear hG hb8 hgl l8
  go_wp2_with (go_at_call 14; (with_reducible refine (HRUN.out _ _ _ _ _ _ HT8.out HG8.out (HV.out.below HB8.out) HB8.out.size hgl8 HV.out.lt).mono ?_); rintro e w9 ⟨rfl, ⟨a9, c9, hG, _⟩, hk9⟩; have HG9 := Lib.hid hG; have HK9 := Lib.hid hk9; have HB9 := Lib.hid (HB8.out.trans hk9.below); clear hG hk9)
  have HKO := HK9.out.kepO
  have hvz := HBV.out.size
  have h8z := HB8.out.size
  have HM9 := Lib.hid (HMV.out.keptLt HM8.out HKO (fun k t hk h => by
    rcases h with ⟨_, h⟩ | ⟨_, h⟩
    · have := HLT.out k h; omega
    · have := HZ8.out; omega))
  have x8 := (HKO.2 _ _ _ _ Y8.out (fun h => by rcases h with ⟨h, _⟩ | ⟨h, _⟩ <;> exact absurd h (by decide))).trans Y8.out
  have q8 := fun o => cell_of_heap x8 o
  have f8 := fun o => froz_of_heap x8 o
  have l8 := (Array.getElem?_eq_some_iff.1 x8).1
  have hI9 := HI.out.below HB9.out
  have HNW := Lib.hid (fun W (hW : Below w9.heap.size w9 W) => refNewG_any aI nI cI ids W (hI9.below hW) HIL.out (by omega))
  have HRR9 := Lib.hid (fun W (hW : Below w9.heap.size w9 W) al cl h2 h3 => HRR5.out al cl W (HM9.out.below hW) h2 h3)
  have HZ9 := Lib.hid HB9.out
  clear HKO x8 hI9 HRR5 hvz h8z
  refine wp_region_tree (.step 0 (.step 1 (.step 2 (.narrow (.step 3 (.narrow (.step 4 (.step 5 (.step 6 (.step 7 (.step 8 .nil))))))))))) (by kernel_rfl) (by kernel_rfl) (by kernel_rfl) (by kernel_rfl) (by intro _ _ d_ _ _ h_; cases d_ <;> first | exact h_ | (dsimp +zetaDelta only at h_ ⊢; exact h_)) (fun w' => ∃ p : Wld w9 [], w' = p.val) (wld_start _ _) ?_
  have hG_ := @wldC w9
  (refine tree_quiet (by simp only [List.getElem?_toArray, List.getElem?_cons_succ, List.getElem?_cons_zero]; rfl) (by rfl) (by rfl) (fun K_ hK_ => ?_); go_big_quiet_op; refine hK_ _ ?_; clear hK_ K_)
  (refine tree_quiet (by simp only [List.getElem?_toArray, List.getElem?_cons_succ, List.getElem?_cons_zero]; rfl) (by rfl) (by rfl) (fun K_ hK_ => ?_); go_big_quiet_op; refine hK_ _ ?_; clear hK_ K_)
  (refine tree_run (by simp only [List.getElem?_toArray, List.getElem?_cons_succ, List.getElem?_cons_zero]; rfl) (by rfl) (by rfl) (fun K_ hK_ => ?_); have HK_ := Lib.hid hK_; clear hK_; go_wp2_with (first | (go_at_call 16; (with_reducible refine (HNW.out _ (by exact blw)).mono ?_); rintro e w10 ⟨a10, c10, rfl, ho10, hb10⟩; have HH10 := Lib.hid (has_of_owns ho10); have HA10 := Lib.hid (owns_slice ho10); have h10z := hb10.size; clear ho10) | (go_at_call 15; (with_reducible refine (HRR9.out w10 (by exact blw) a10 c10 (by exact HH10.out) (by obtain ⟨_, _, e, _, _, h3⟩ := HA10.out; injection e with e1 e2 e3; subst e1 e3; exact h3)).mono ?_); rintro e w11 ⟨a11, c11, rfl, hh11, hb11⟩; have HH11 := Lib.hid hh11; have h11z := hb11.size; clear hh11)); refine HK_.out _ _ (wld_ofA) ?_; clear HK_)
  refine tree_move (by repeat (first | with_reducible exact same_below (brefl _) | with_reducible exact same_below (bdrew1 (brefl _)) | with_reducible assumption | with_reducible refine same_drew ?_ | (with_reducible refine same_set ?_ (by first | (left; simp; done) | (right; simp; done) | (right; simp; omega)) _) | with_reducible refine same_then ?_ (by assumption) | with_reducible refine same_alloc ?_ _ | exact same_below (brefl _) | exact same_realloc (by simp) | exact same_below (bdrew1 (brefl _)) | assumption | refine same_drew ?_ | refine same_then ?_ (by assumption) | refine same_alloc ?_ _ | (refine same_set ?_ (by first | (left; simp; done) | (right; simp; done) | (right; simp; omega)) _))) ?_; clear hG_; intro hG_
  (refine tree_run (by simp only [List.getElem?_toArray, List.getElem?_cons_succ, List.getElem?_cons_zero]; rfl) (by rfl) (by rfl) (fun K_ hK_ => ?_); have HK_ := Lib.hid hK_; clear hK_; go_wp2_with (first | (go_at_call 16; (with_reducible refine (HNW.out _ (by exact blw)).mono ?_); rintro e w10 ⟨a10, c10, rfl, ho10, hb10⟩; have HH10 := Lib.hid (has_of_owns ho10); have HA10 := Lib.hid (owns_slice ho10); have h10z := hb10.size; clear ho10) | (go_at_call 15; (with_reducible refine (HRR9.out w10 (by exact blw) a10 c10 (by exact HH10.out) (by obtain ⟨_, _, e, _, _, h3⟩ := HA10.out; injection e with e1 e2 e3; subst e1 e3; exact h3)).mono ?_); rintro e w11 ⟨a11, c11, rfl, hh11, hb11⟩; have HH11 := Lib.hid hh11; have h11z := hb11.size; clear hh11)); refine HK_.out _ _ (wld_ofA) ?_; clear HK_)
  refine tree_move (by repeat (first | with_reducible exact same_below (brefl _) | with_reducible exact same_below (bdrew1 (brefl _)) | with_reducible assumption | with_reducible refine same_drew ?_ | (with_reducible refine same_set ?_ (by first | (left; simp; done) | (right; simp; done) | (right; simp; omega)) _) | with_reducible refine same_then ?_ (by assumption) | with_reducible refine same_alloc ?_ _ | exact same_below (brefl _) | exact same_realloc (by simp) | exact same_below (bdrew1 (brefl _)) | assumption | refine same_drew ?_ | refine same_then ?_ (by assumption) | refine same_alloc ?_ _ | (refine same_set ?_ (by first | (left; simp; done) | (right; simp; done) | (right; simp; omega)) _))) ?_; clear hG_; intro hG_
  (refine tree_quiet (by simp only [List.getElem?_toArray, List.getElem?_cons_succ, List.getElem?_cons_zero]; rfl) (by rfl) (by rfl) (fun K_ hK_ => ?_); go_big_quiet_op; refine hK_ _ ?_; clear hK_ K_)
  (refine tree_quiet (by simp only [List.getElem?_toArray, List.getElem?_cons_succ, List.getElem?_cons_zero]; rfl) (by rfl) (by rfl) (fun K_ hK_ => ?_); go_big_quiet_op; refine hK_ _ ?_; clear hK_ K_)
  (refine tree_quiet (by simp only [List.getElem?_toArray, List.getElem?_cons_succ, List.getElem?_cons_zero]; rfl) (by rfl) (by rfl) (fun K_ hK_ => ?_); go_big_quiet_op; refine hK_ _ ?_; clear hK_ K_)
  (refine tree_quiet (by simp only [List.getElem?_toArray, List.getElem?_cons_succ, List.getElem?_cons_zero]; rfl) (by rfl) (by rfl) (fun K_ hK_ => ?_); go_big_quiet_op; refine hK_ _ ?_; clear hK_ K_)
  (refine tree_quiet (by simp only [List.getElem?_toArray, List.getElem?_cons_succ, List.getElem?_cons_zero]; rfl) (by rfl) (by rfl) (fun K_ hK_ => ?_); go_big_quiet_op; refine hK_ _ ?_; clear hK_ K_)
  refine tree_nil ?_
  clear hG_
  have hb9 : Below w9.heap.size w9 w11 := (by exact blw)
  have HG11 := Lib.hid (HG9.out.below hb9)
  have HB11 := Lib.hid (HZ9.out.trans (hb9.mono HZ9.out.size))
  have HGL := Lib.hid (gglyphs_any w.heap.size gl a9 c9 L w11 HG11.out (by simp only [hLn]; omega))
  clear hb9 hb10 hb11 q8 f8
  go_wp2_with (first
      | (go_at_call 18; (with_reducible refine HGL.out.mono ?_); rintro e w12 ⟨a12, c12, rfl, ho, _, _, _, hb12⟩; have HH12 := Lib.hid (has_of_owns ho); have HH11' := Lib.hid (HH11.out.below hb12); have HB12 := Lib.hid (HB11.out.trans (hb12.mono HB11.out.size)); clear ho hb12)
      | (go_at_call 17; (refine (refSameG_any _ _ nI _ nI _ L L w12 HH12.out hLn HH11'.out hLn (by omega) (by omega)).mono ?_); rintro e w13 ⟨rfl, hb13⟩; rw [decide_eq_true rfl]; have HB13 := Lib.hid (HB12.out.trans (hb13.mono HB12.out.size)); clear hb13))
  go_ret
  exact ⟨rfl, HB13.out⟩

open Go.ChangeShapes Go.WideShapes Go.ChangeAt Go.RowKit
open Go.ChangeMaps (open_string shut_string)

set_option maxRecDepth 100000 in
theorem rearRuns_walks (H : Type) (enc : TypeId × Value → H) : WalksV H enc 3 [26, 27] := by
  intro W base args ds p hV hval hA _
  obtain ⟨v0, vs0, d0, ds0, p0, q0, hargs, rfl, rfl, h0, r0⟩ := trodAll_cons hA
  obtain ⟨v1, vs1, d1, ds1, p1, q1, rfl, rfl, rfl, h1, r1⟩ := trodAll_cons r0
  obtain ⟨rfl, rfl, rfl⟩ := trodAll_nil r1
  obtain rfl : args = #[v0, v1] := by cases args; simp_all
  obtain ⟨p, aC, aR, aE, rv, cC, cR, cE, rfl, hP, hw⟩ := open_plan (hval 0 26 v0 rfl rfl) h0
  obtain ⟨a, n, c, ids, rfl, hl, _, _, _, hi, hz⟩ := open_ids (hval 1 27 v1 rfl rfl) h1
  exact rearRuns_walk p aC aR aE rv cC cR cE a n c ids W hP hw hi hl hz hV

set_option maxRecDepth 100000 in
theorem rearRuns_lifted (os : Os) (started : os.Started) (H : Type) (enc : TypeId × Value → H) :
    ReturnsInHanded {} Tryd.checked os 3 .any (fun w args => (Rows.rearRunsSpec.pre enc Tryd.checked.prog Tryd.f3 [] false w args ∧ laidMetH Tryd.prog laidV w) ∧ sizedMet enc Tryd.checked.prog Tryd.f3 (OpenSpec.ofChange Rows.rearRunsSpec) false w args) (Rows.rearRunsSpec.post enc Tryd.checked.prog Tryd.f3 false true false false) :=
  lift_laid (s := Rows.rearRunsSpec) (fn := Tryd.f3) started (by kernel_rfl) Tryd.func3
    (ChangeSpec.witness_shaped (enc := enc) (C := Tryd.checked) (os := os) (X := fun w _ => laidMetH Tryd.prog laidV w) false (World.doorLaid Tryd.prog 400 os) #[.agg #[.slice none 0 0, .slice none 0 0, .slice none 0 0, .int .u8 0], .slice none 0 0] 8 rfl (World.shaped_of_RefB (by kernel_rfl) (by kernel_rfl)) (by kernel_rfl) (by kernel_rfl) (by kernel_rfl) (door_met os _))
    rfl rfl (fun ds h => by match ds, h with | [d0, d1], _ => rfl) (by intro t ht; simp [Tryd.params3] at ht; first | (subst ht; exact ⟨by kernel_rfl, of_decide_eq_true (by kernel_rfl)⟩) | (obtain rfl | rfl := ht <;> exact ⟨by kernel_rfl, of_decide_eq_true (by kernel_rfl)⟩) | (obtain rfl | rfl | rfl := ht <;> exact ⟨by kernel_rfl, of_decide_eq_true (by kernel_rfl)⟩) | (obtain rfl | rfl | rfl | rfl := ht <;> exact ⟨by kernel_rfl, of_decide_eq_true (by kernel_rfl)⟩))
    (by rw [Tryd.params3]; exact rearRuns_walks H enc)
theorem rearRuns_over : Rows.rearRunsRow.holds Tryd.pinned (OpenSpec.ofChange Rows.rearRunsSpec) :=
  OpenClaim.holds_of_wide 3 Tryd.f3 rfl rfl rfl rfl rfl rfl rfl ⟨rfl, rfl, rfl, rfl, rfl⟩ rfl rfl rfl rfl rfl (by kernel_rfl) Tryd.func3 (by kernel_rfl)
    (of_decide_eq_true (by kernel_rfl)) (by unfold Func.isWrapper; first | (rw [if_pos (by decide +kernel)]; kernel_rfl) | (rw [if_neg (by decide +kernel)]; exact ⟨rfl, rfl⟩))
    (fun os started H enc _ => rearRuns_lifted os started H enc)
theorem rearRuns_proved : Rows.RearRunsCardSaid :=
  Claim7.holds_tied_plain_at .later [] [.data] true (true, "8373405fcbf2cee226382fee390bd7ba0b61dd52971eae1a3fd12d45f8928637") true
    rearRuns_over (fun _ h => by cases h) (by kernel_rfl) (fun _ h => by cases h) rearRuns_row_tie rfl ⟨rfl, rfl⟩ (by kernel_rfl) rfl
    (fun f fn hf hfn => by
      obtain rfl : f = 3 := Option.some.inj ((show Tryd.prog.funcNamed "swash/swashlaw14.RearRuns" = some 3 by kernel_rfl).symm.trans hf) |>.symm
      obtain rfl : fn = Tryd.f3 := (Option.some.inj (Tryd.func3.symm.trans hfn)).symm
      exact ⟨by kernel_rfl, fun j t ht => by
        have hall : (Tryd.f3.params.toList.all fun u => !Tryd.prog.wantsStandIn u) = true := by kernel_rfl
        have hm : t ∈ Tryd.f3.params.toList := Array.mem_toList_iff.2 (Array.mem_of_getElem? ht)
        exact (show Tryd.prog.wantsStandIn t = false by simpa using List.all_eq_true.1 hall t hm)⟩)
    (by kernel_rfl)
#print axioms rearRuns_proved
end Go.Proofs.YtlhnfpkenlenjaaDoor
