
/- The walk of RearKeeps. RearKeeps returns true for every plan and every line, and changes nothing: each glyph of the line is there behind a subtable, with its cluster, once, and no other. Condition: the table of verbs lies in memory. -/
import Derived.Test.YtlhnfpkenlenjaaDoorJ19
import Derived.Test.YtlhnfpkenlenjaaDoorJ15
import Derived.Test.YtlhnfpkenlenjaaDoorJ18
import Derived.Test.YtlhnfpkenlenjaaDoorJ17
import Derived.Test.YtlhnfpkenlenjaaDoorTie
import Derived.Test.YtlhnfpkenlenjaaDoorCards
import Derived.SevenTiedAt
namespace Go.Proofs.YtlhnfpkenlenjaaDoor
open Go.RowKit Go.Lib

def clustersOf (l : List (Int × Int)) : List Int := l.map (·.2)
theorem Keeps.cluster {ids : List Int} {l : List (Int × Int)} (h : Keeps ids l) {j : Nat} {p : Int × Int} (hp : l[j]? = some p) : ∃ c : Nat, p.2 = (c : Int) ∧ c < ids.length ∧ ids[c]? = some p.1 ∧ (clustersOf l)[j]? = some (c : Int) ∧ ((c : Nat) : Int) ∉ (clustersOf l).take j := by
  obtain ⟨c, h1, h2⟩ := h.each j p hp
  have hc : (clustersOf l)[j]? = some (c : Int) := by rw [clustersOf, List.getElem?_map, hp, ← h1]; rfl
  refine ⟨c, h1, (List.getElem?_eq_some_iff.1 h2).1, h2, hc, fun hm => ?_⟩
  obtain ⟨i, hi⟩ := List.getElem?_of_mem hm
  have hij : i < j := by have := (List.getElem?_eq_some_iff.1 hi).1; rw [List.length_take] at this; omega
  rw [List.getElem?_take, if_pos hij, clustersOf, List.getElem?_map, Option.map_eq_some_iff] at hi
  obtain ⟨q, hq, e⟩ := hi
  have := h.once i j q p hq hp (e.trans h1.symm)
  omega
set_option maxRecDepth 100000 in
set_option maxHeartbeats 6400000 in
theorem rearKeeps_walk (p : PlanL) (aC aR aE : Option Addr) (rv : List Value) (cC cR cE : Nat) (aI : Option Addr) (nI cI : Nat) (ids : List Int) (w : World) (h : PlanHas w p aC aR rv aE) (hwf : ∀ e ∈ p.ents, wfI e.1 ∧ wfI e.2.1 ∧ wfI e.2.2.1 ∧ wfI e.2.2.2)
    (hi : Has w aI (iv ids)) (hil : ids.length = nI) (hiw : ∀ z ∈ ids, -9223372036854775808 ≤ z ∧ z ≤ 9223372036854775807) (hV : VerbsIn w) :
    Calls Tryd.prog 4 #[.agg #[.slice aC p.cls.length cC, .slice aR p.rows.length cR, .slice aE p.ents.length cE, .int .u8 (p.wide.toNat : Nat)], .slice aI nI cI] w fun e w' => e = .returned (.bool true) ∧ Below w.heap.size w w' := by
  have hAC := allocC
  have hAF := allocF
  have HV := Lib.hid hV
  have HSP := Lib.hid (fun W (hW : Below w.heap.size w W) => speaks14_any W (hV.below hW))
  have hpn : 4 ≤ p.n ∧ p.n ≤ 11 := by unfold PlanL.n; omega
  have hlen := planB_length p 0 0 (by decide)
  obtain ⟨bs, hbs⟩ : ∃ bs, bs = planB p 0 0 := ⟨_, rfl⟩
  obtain ⟨nB, hnB⟩ : ∃ nB, nB = bs.length := ⟨_, rfl⟩
  have hWRS : ∀ W, Below w.heap.size w W → p.cls.length ≤ 40 ∧ p.rows.length ≤ 20 ∧ p.ents.length ≤ 40 ∧ nI ≤ 60 → Calls Tryd.prog 10 #[.agg #[.slice aC p.cls.length cC, .slice aR p.rows.length cR, .slice aE p.ents.length cE, .int .u8 (p.wide.toNat : Nat)], .int .i64 0, .int .i64 0] W fun e w' => ∃ a' c', e = .returned (.slice a' nB c') ∧ w'.ownsRow W.heap.size 5 1 (.slice a' nB c') nB (bytesV bs) ∧ nB ≤ c' ∧ c' ≤ maxLen ∧ (a' = none → c' = 0) ∧ Below W.heap.size W w' := by
    intro W hW hs
    subst hnB hbs
    exact write_any p 0 0 0 0 rfl rfl aC aR aE rv cC cR cE W (h.below hW) (by omega) (by omega) (by omega) (by omega) (by decide) hwf
  rw [← hbs, ← hnB] at hlen
  have HL := Lib.hid hnB.symm
  clear hbs hnB h hwf
  have hmul : p.rows.length ≤ 20 → p.rows.length * p.n ≤ 20 * 11 := fun hr => Nat.mul_le_mul hr hpn.2
  generalize p.rows.length = nR at *
  generalize p.cls.length = nC at *
  generalize p.ents.length = nE at *
  generalize p.wide.toNat = wy at *
  generalize p.n = C at *
  have HI := Lib.hid hi
  have HIL := Lib.hid hil
  have HIW := Lib.hid hiw
  clear hi hil hiw
  by_cases hs : nC ≤ 40 ∧ nR ≤ 20 ∧ nE ≤ 40 ∧ nI ≤ 60
  case neg =>
    have HSM := Lib.hid (fun W => small14_no aC aR aE aI nC nR nE nI cC cR cE cI (wy : Int) W hs)
    clear hWRS hlen hmul hs hV
    go_enter Tryd.func4, Tryd.ntmps4
    go_wp2_with (first | (go_at_call 8; (with_reducible refine (HSP.out _ (by exact blw)).mono ?_); rintro e w1 ⟨rfl, hb1⟩; have h1c := bc hb1; have h1f := bf hb1; have h1z := hb1.size; try simp only [World.size_alloc, World.size_drew] at h1z) | (go_at_call 9; (with_reducible refine (HSM.out _).mono ?_); rintro e w2 ⟨rfl, hb2⟩; have h2c := bc hb2; have h2f := bf hb2; have h2z := hb2.size; try simp only [World.size_alloc, World.size_drew] at h2z))
    go_ret
    exact ⟨rfl, blw⟩
  have hn2 : nB ≤ 2000 := by
    have := hmul hs.2.1
    omega
  have hI60 : nI ≤ 60 := hs.2.2.2
  have HSM := Lib.hid (fun W => small14_yes aC aR aE aI nC nR nE nI cC cR cE cI (wy : Int) W hs)
  have HWR := Lib.hid (fun W hW => hWRS W hW hs)
  clear hWRS hlen hmul hs hV
  by_cases hok : ∃ rs S, MOk bs 40 0 rs S
  case neg =>
    have HRD := Lib.hid (fun a c W (hW : Has W a (bytesV bs)) (h1 : nB ≤ c) (h2 : c ≤ maxLen) => rread_none a nB c bs 40 40 rfl W hW HL.out h1 h2 (by decide) (by decide) (fun rs S hr => hok ⟨rs, S, hr⟩))
    clear hok
    go_enter Tryd.func4, Tryd.ntmps4
    go_wp2_with (first
      | (go_at_call 8; (with_reducible refine (HSP.out _ (by exact blw)).mono ?_); rintro e w1 ⟨rfl, hb1⟩; have h1c := bc hb1; have h1f := bf hb1; have h1z := hb1.size; try simp only [World.size_alloc, World.size_drew] at h1z)
      | (go_at_call 9; (with_reducible refine (HSM.out _).mono ?_); rintro e w2 ⟨rfl, hb2⟩; have h2c := bc hb2; have h2f := bf hb2; have h2z := hb2.size; try simp only [World.size_alloc, World.size_drew] at h2z)
      | (go_at_call 10; (with_reducible refine (HWR.out _ (by exact blw)).mono ?_); rintro e w3 ⟨a1, c1, rfl, hown, k11, k12, k13, hb3⟩; have HHb := Lib.hid (has_of_owns hown); have h3z := hb3.size; clear hown)
      | (go_at_call 11; (with_reducible refine (HRD.out _ _ _ HHb.out k11 k12).mono ?_); rintro e w4 ⟨rfl, hb4⟩; have h4c := bc hb4; have h4f := bf hb4; have h4z := hb4.size; try simp only [World.size_alloc, World.size_drew] at h4z))
    go_ret
    exact ⟨rfl, blw⟩
  obtain ⟨rs, S, hok⟩ := hok
  have HRD := Lib.hid (fun a c W (hW : Has W a (bytesV bs)) (h1 : nB ≤ c) (h2 : c ≤ maxLen) => rread_some a nB c bs 40 40 rfl rs S W hW HL.out h1 h2 (by decide) (by decide) hok)
  have HRUN := Lib.hid (fun (Bm gt gl : Nat) (a : Option Addr) (c : Nat) (W : World) (hT : TIs Bm gt bs rs S W) (hG : GIs w.heap.size gl a c (newG ids) W) (hV : VerbsIn W) (hB : w.heap.size ≤ W.heap.size) (hBl : w.heap.size ≤ gl) (hVB : 0 < w.heap.size) => rrun_new w.heap.size gt gl bs rs S a c ids W (Bm := Bm) hT hok (by rw [HL.out]; exact hn2) hG hV hB hBl hVB HIW.out (by rw [HIL.out]; omega))
  have hkeep := rearD_keeps bs rs ids
  generalize rearD bs rs (newG ids) = R at *
  obtain ⟨⟨L, r1, r2⟩, r3, r4⟩ := R
  simp only at hkeep
  have HK := Lib.hid hkeep
  have hLn : L.length = nI := hkeep.len.trans HIL.out
  clear hok hkeep
  go_enter Tryd.func4, Tryd.ntmps4
  go_wp2_with (first
      | (go_at_call 8; (with_reducible refine (HSP.out _ (by exact blw)).mono ?_); rintro e w1 ⟨rfl, hb1⟩; have h1c := bc hb1; have h1f := bf hb1; have h1z := hb1.size; try simp only [World.size_alloc, World.size_drew] at h1z)
      | (go_at_call 9; (with_reducible refine (HSM.out _).mono ?_); rintro e w2 ⟨rfl, hb2⟩; have h2c := bc hb2; have h2f := bf hb2; have h2z := hb2.size; try simp only [World.size_alloc, World.size_drew] at h2z)
      | (go_at_call 10; (with_reducible refine (HWR.out _ (by exact blw)).mono ?_); rintro e w3 ⟨a1, c1, rfl, hown, k11, k12, k13, hb3⟩; have HHb := Lib.hid (has_of_owns hown); have HB3 := Lib.hid (show Below w.heap.size w w3 from by exact blw); have h3z := hb3.size; clear hown)
      | (go_at_call 11; (with_reducible refine (HRD.out _ _ _ HHb.out k11 k12).mono ?_); rintro e w4 ⟨gt, rfl, hT, hb4⟩; have HT := Lib.hid hT; have HB4 := Lib.hid (HB3.out.trans (hb4.mono HB3.out.size)); clear hT)
      | (go_at_call 13; (with_reducible refine (gnew_any aI nI cI ids w4 (HI.out.below HB4.out) HIL.out (by omega)).mono ?_); rintro e w8 ⟨gl, a8, c8, rfl, hG, hgl, hb8⟩; have HT8 := Lib.hid (HT.out.below hb8); have HB8 := Lib.hid (HB4.out.trans (hb8.mono HB4.out.size)); have hgl8 : w.heap.size ≤ gl := Nat.le_trans HB4.out.size hgl; have HG8 := Lib.hid (hG.mono HB4.out.size); clear hG hb8 hgl)
      | (go_at_call 14; (with_reducible refine (HRUN.out _ _ _ _ _ _ HT8.out HG8.out (HV.out.below HB8.out) HB8.out.size hgl8 HV.out.lt).mono ?_); rintro e w9 ⟨rfl, ⟨a9, c9, hG, _⟩, hk9⟩; have HG9 := Lib.hid hG; have HB9 := Lib.hid (HB8.out.trans hk9.below); clear hG hk9)
      | (go_at_call 18; (with_reducible refine (gglyphs_any w.heap.size gl a9 c9 _ w9 HG9.out (by simp only [hLn]; omega)).mono ?_); rintro e w10 ⟨a10, c10, rfl, ho, _, _, _, hb10⟩; have HH10 := Lib.hid (has_of_owns ho); have HB10 := Lib.hid (HB9.out.trans (hb10.mono HB9.out.size)); have hz10 := HB10.out.size; clear ho hb10)
      | (refine wpMake w10 rfl _ _ 51 rfl w10.heap.size 4 (.bool false) 1 1 Tryd.underlying51 info_boolG nI rfl rfl (by omega) (by unfold maxLen; omega) (Nat.le_refl _) ?_; intro w11 hown hb11; rw [made_bool] at hown; have HO := Lib.hid hown; have HB11 := Lib.hid hb11; clear hown hb11))
  go_loopw [39] (fun i wr => ∃ j : Nat, j ≤ nI ∧ i = .int .i64 (j : Nat) ∧ wr.ownsRow w10.heap.size 4 1 (.slice (some ⟨w10.heap.size, 0, none⟩) nI nI) nI (bv (seenL (clustersOf L) j)) ∧ Below w10.heap.size w10 wr) (fun i _ => nI - (RowKit.intOf i).toNat)
  case atStart => exact ⟨0, Nat.zero_le _, rfl, by rw [seenL_zero, clustersOf, List.length_map, hLn]; exact HO.out, HB11.out⟩
  case round =>
    obtain ⟨j, hj, rfl, ho, hb⟩ := hrel
    have HX := Lib.hid ho
    have HB := Lib.hid hb
    have hzr := hb.size
    clear ho hb
    by_cases hlt : j < nI
    · obtain ⟨gi, oi, q, rfl, hgi, hq, hc1, hc2⟩ := gv_at (HH10.out.below HB.out) (k := j) (by rw [hLn]; omega)
      obtain ⟨c, e1, hc, hid, hcl, hnot⟩ := HK.out.cluster hq
      obtain ⟨z, y⟩ := q
      simp only at e1 hc1 hc2 hid
      subst e1
      rw [HIL.out] at hc
      obtain ⟨gk, ok, y, rfl, hgk, hy, hcy⟩ := iv_at (HI.out.below (HB10.out.trans (HB.out.mono hz10))) (k := c) (by rw [HIL.out]; omega)
      obtain rfl : z = y := by rw [hid] at hy; injection hy
      have d0 : decide ((c : Int) < 0) = false := by simp
      have d1 : decide ((nI : Int) ≤ (c : Int)) = false := by simp; omega
      have d2 : decide (nI ≤ c) = false := by simp; omega
      clear hid hy
      go_wp2_with fail
      obtain ⟨W, hW⟩ : ∃ W, W = wr.alloc (Obj.cells #[.int .i64 z, .int .i64 (c : Nat)] 53) := ⟨_, rfl⟩
      have hbW : Below wr.heap.size wr W := by rw [hW]; exact balloc (brefl wr) _
      have x11 : W.heap[wr.heap.size]? = some (.cells #[.int .i64 z, .int .i64 (c : Nat)] 53 (0, 0)) := by rw [hW, heap_push, if_pos rfl]
      rw [← hW]
      have q11 := cell_of_heap x11 0
      have l11 := (Array.getElem?_eq_some_iff.1 x11).1
      simp only [List.getElem?_toArray, List.getElem?_cons_zero] at q11
      have hcy' := (hbW.cell (p := ⟨gk, ok + c, none⟩) hgk).trans hcy
      have hX := owns_below HX.out hbW (Nat.le_refl _)
      obtain ⟨g2, cs2, u2, he, _, hh2, hcc2, hu2, f2, hs2⟩ := row_at hX c (by omega)
      cases he
      have hc3 := hX.cellAt c (by omega)
      rw [bv_get (seenL_get _ j c (by rw [clustersOf, List.length_map, hLn]; exact hc)), decide_eq_false hnot] at hc3
      have hs := hs2 (.bool true)
      rw [bv_set, seenL_set _ j c hcl (by rw [clustersOf, List.length_map, hLn]; exact hc)] at hs
      have HS := Lib.hid hs
      have hgk' : gk < W.heap.size := Nat.lt_of_lt_of_le hgk hbW.size
      have hl10' : w10.heap.size < W.heap.size := cell_lt hc3
      have HBS := Lib.hid ((HB.out.trans (hbW.mono hzr)).setCell (p := ⟨w10.heap.size, c, none⟩) (Nat.le_refl _) (.bool true))
      clear hW hbW x11 hcy hgk hc1 hc2 hs hs2 hnot hcl hq hcc2 hu2 hh2 hX
      refine wp_region_tree (.step 0 (.step 1 (.step 2 (.step 3 (.step 4 (.step 5 (.step 6 (.step 7 (.step 8 (.step 9 (.step 10 (.step 11 (.step 12 (.step 13 (.step 14 (.step 15 (.step 16 (.step 17 (.step 18 (.step 19 (.step 20 (.step 21 (.step 22 .nil))))))))))))))))))))))) (by kernel_rfl) (by kernel_rfl) (by kernel_rfl) (by kernel_rfl) (by intro _ _ d_ _ _ h_; cases d_ <;> first | exact h_ | (dsimp +zetaDelta only at h_ ⊢; exact h_)) (fun w' => ∃ p : Wld W [], w' = p.val) (wld_start _ _) ?_
      have hG_ := @wldC W
      (refine tree_quiet (by simp only [List.getElem?_toArray, List.getElem?_cons_succ, List.getElem?_cons_zero]; rfl) (by rfl) (by rfl) (fun K_ hK_ => ?_); go_big_quiet_op; refine hK_ _ ?_; clear hK_ K_)
      (refine tree_quiet (by simp only [List.getElem?_toArray, List.getElem?_cons_succ, List.getElem?_cons_zero]; rfl) (by rfl) (by rfl) (fun K_ hK_ => ?_); go_big_quiet_op; refine hK_ _ ?_; clear hK_ K_)
      (refine tree_quiet (by simp only [List.getElem?_toArray, List.getElem?_cons_succ, List.getElem?_cons_zero]; rfl) (by rfl) (by rfl) (fun K_ hK_ => ?_); go_big_quiet_op; refine hK_ _ ?_; clear hK_ K_)
      (refine tree_quiet (by simp only [List.getElem?_toArray, List.getElem?_cons_succ, List.getElem?_cons_zero]; rfl) (by rfl) (by rfl) (fun K_ hK_ => ?_); go_big_quiet_op; refine hK_ _ ?_; clear hK_ K_)
      (refine tree_quiet (by simp only [List.getElem?_toArray, List.getElem?_cons_succ, List.getElem?_cons_zero]; rfl) (by rfl) (by rfl) (fun K_ hK_ => ?_); go_big_quiet_op; refine hK_ _ ?_; clear hK_ K_)
      (refine tree_quiet (by simp only [List.getElem?_toArray, List.getElem?_cons_succ, List.getElem?_cons_zero]; rfl) (by rfl) (by rfl) (fun K_ hK_ => ?_); go_big_quiet_op; refine hK_ _ ?_; clear hK_ K_)
      (refine tree_quiet (by simp only [List.getElem?_toArray, List.getElem?_cons_succ, List.getElem?_cons_zero]; rfl) (by rfl) (by rfl) (fun K_ hK_ => ?_); go_big_quiet_op; refine hK_ _ ?_; clear hK_ K_)
      (refine tree_quiet (by simp only [List.getElem?_toArray, List.getElem?_cons_succ, List.getElem?_cons_zero]; rfl) (by rfl) (by rfl) (fun K_ hK_ => ?_); go_big_quiet_op; refine hK_ _ ?_; clear hK_ K_)
      (refine tree_quiet (by simp only [List.getElem?_toArray, List.getElem?_cons_succ, List.getElem?_cons_zero]; rfl) (by rfl) (by rfl) (fun K_ hK_ => ?_); go_big_quiet_op; refine hK_ _ ?_; clear hK_ K_)
      (refine tree_quiet (by simp only [List.getElem?_toArray, List.getElem?_cons_succ, List.getElem?_cons_zero]; rfl) (by rfl) (by rfl) (fun K_ hK_ => ?_); go_big_quiet_op; refine hK_ _ ?_; clear hK_ K_)
      (refine tree_quiet (by simp only [List.getElem?_toArray, List.getElem?_cons_succ, List.getElem?_cons_zero]; rfl) (by rfl) (by rfl) (fun K_ hK_ => ?_); go_big_quiet_op; refine hK_ _ ?_; clear hK_ K_)
      (refine tree_quiet (by simp only [List.getElem?_toArray, List.getElem?_cons_succ, List.getElem?_cons_zero]; rfl) (by rfl) (by rfl) (fun K_ hK_ => ?_); go_big_quiet_op; refine hK_ _ ?_; clear hK_ K_)
      (refine tree_quiet (by simp only [List.getElem?_toArray, List.getElem?_cons_succ, List.getElem?_cons_zero]; rfl) (by rfl) (by rfl) (fun K_ hK_ => ?_); go_big_quiet_op; refine hK_ _ ?_; clear hK_ K_)
      (refine tree_quiet (by simp only [List.getElem?_toArray, List.getElem?_cons_succ, List.getElem?_cons_zero]; rfl) (by rfl) (by rfl) (fun K_ hK_ => ?_); go_big_quiet_op; refine hK_ _ ?_; clear hK_ K_)
      (refine tree_quiet (by simp only [List.getElem?_toArray, List.getElem?_cons_succ, List.getElem?_cons_zero]; rfl) (by rfl) (by rfl) (fun K_ hK_ => ?_); go_big_quiet_op; refine hK_ _ ?_; clear hK_ K_)
      (refine tree_quiet (by simp only [List.getElem?_toArray, List.getElem?_cons_succ, List.getElem?_cons_zero]; rfl) (by rfl) (by rfl) (fun K_ hK_ => ?_); go_big_quiet_op; refine hK_ _ ?_; clear hK_ K_)
      (refine tree_quiet (by simp only [List.getElem?_toArray, List.getElem?_cons_succ, List.getElem?_cons_zero]; rfl) (by rfl) (by rfl) (fun K_ hK_ => ?_); go_big_quiet_op; refine hK_ _ ?_; clear hK_ K_)
      (refine tree_quiet (by simp only [List.getElem?_toArray, List.getElem?_cons_succ, List.getElem?_cons_zero]; rfl) (by rfl) (by rfl) (fun K_ hK_ => ?_); go_big_quiet_op; refine hK_ _ ?_; clear hK_ K_)
      (refine tree_quiet (by simp only [List.getElem?_toArray, List.getElem?_cons_succ, List.getElem?_cons_zero]; rfl) (by rfl) (by rfl) (fun K_ hK_ => ?_); go_big_quiet_op; refine hK_ _ ?_; clear hK_ K_)
      (refine tree_quiet (by simp only [List.getElem?_toArray, List.getElem?_cons_succ, List.getElem?_cons_zero]; rfl) (by rfl) (by rfl) (fun K_ hK_ => ?_); go_big_quiet_op; refine hK_ _ ?_; clear hK_ K_)
      (refine tree_quiet (by simp only [List.getElem?_toArray, List.getElem?_cons_succ, List.getElem?_cons_zero]; rfl) (by rfl) (by rfl) (fun K_ hK_ => ?_); go_big_quiet_op; refine hK_ _ ?_; clear hK_ K_)
      (refine tree_quiet (by simp only [List.getElem?_toArray, List.getElem?_cons_succ, List.getElem?_cons_zero]; rfl) (by rfl) (by rfl) (fun K_ hK_ => ?_); go_big_quiet_op; refine hK_ _ ?_; clear hK_ K_)
      (refine tree_quiet (by simp only [List.getElem?_toArray, List.getElem?_cons_succ, List.getElem?_cons_zero]; rfl) (by rfl) (by rfl) (fun K_ hK_ => ?_); go_big_quiet_op; refine hK_ _ ?_; clear hK_ K_)
      refine tree_nil ?_
      clear hG_
      go_wp2_with fail
      go_roundw
      case rel => exact ⟨j + 1, hlt, by go_num, HS.out, HBS.out.drew⟩
      case measure => simp only [RowKit.intOf]; omega
    · obtain rfl : nI = j := by omega
      go_wp2_with fail
      go_ret
      exact ⟨rfl, HB10.out.trans (HB.out.mono hz10)⟩

open Go.ChangeShapes Go.WideShapes Go.ChangeAt Go.RowKit
open Go.ChangeMaps (open_string shut_string)

set_option maxRecDepth 100000 in
theorem rearKeeps_walks (H : Type) (enc : TypeId × Value → H) : WalksV H enc 4 [26, 27] := by
  intro W base args ds p hV hval hA _
  obtain ⟨v0, vs0, d0, ds0, p0, q0, hargs, rfl, rfl, h0, r0⟩ := trodAll_cons hA
  obtain ⟨v1, vs1, d1, ds1, p1, q1, rfl, rfl, rfl, h1, r1⟩ := trodAll_cons r0
  obtain ⟨rfl, rfl, rfl⟩ := trodAll_nil r1
  obtain rfl : args = #[v0, v1] := by cases args; simp_all
  obtain ⟨p, aC, aR, aE, rv, cC, cR, cE, rfl, hP, hw⟩ := open_plan (hval 0 26 v0 rfl rfl) h0
  obtain ⟨a, n, c, ids, rfl, hl, _, _, _, hi, hz⟩ := open_ids (hval 1 27 v1 rfl rfl) h1
  exact rearKeeps_walk p aC aR aE rv cC cR cE a n c ids W hP hw hi hl hz hV

set_option maxRecDepth 100000 in
theorem rearKeeps_lifted (os : Os) (started : os.Started) (H : Type) (enc : TypeId × Value → H) :
    ReturnsInHanded {} Tryd.checked os 4 .any (fun w args => (Rows.rearKeepsSpec.pre enc Tryd.checked.prog Tryd.f4 [] false w args ∧ laidMetH Tryd.prog laidV w) ∧ sizedMet enc Tryd.checked.prog Tryd.f4 (OpenSpec.ofChange Rows.rearKeepsSpec) false w args) (Rows.rearKeepsSpec.post enc Tryd.checked.prog Tryd.f4 false true false false) :=
  lift_laid (s := Rows.rearKeepsSpec) (fn := Tryd.f4) started (by kernel_rfl) Tryd.func4
    (ChangeSpec.witness_shaped (enc := enc) (C := Tryd.checked) (os := os) (X := fun w _ => laidMetH Tryd.prog laidV w) false (World.doorLaid Tryd.prog 400 os) #[.agg #[.slice none 0 0, .slice none 0 0, .slice none 0 0, .int .u8 0], .slice none 0 0] 8 rfl (World.shaped_of_RefB (by kernel_rfl) (by kernel_rfl)) (by kernel_rfl) (by kernel_rfl) (by kernel_rfl) (door_met os _))
    rfl rfl (fun ds h => by match ds, h with | [d0, d1], _ => rfl) (by intro t ht; simp [Tryd.params4] at ht; first | (subst ht; exact ⟨by kernel_rfl, of_decide_eq_true (by kernel_rfl)⟩) | (obtain rfl | rfl := ht <;> exact ⟨by kernel_rfl, of_decide_eq_true (by kernel_rfl)⟩) | (obtain rfl | rfl | rfl := ht <;> exact ⟨by kernel_rfl, of_decide_eq_true (by kernel_rfl)⟩) | (obtain rfl | rfl | rfl | rfl := ht <;> exact ⟨by kernel_rfl, of_decide_eq_true (by kernel_rfl)⟩))
    (by rw [Tryd.params4]; exact rearKeeps_walks H enc)
theorem rearKeeps_over : Rows.rearKeepsRow.holds Tryd.pinned (OpenSpec.ofChange Rows.rearKeepsSpec) :=
  OpenClaim.holds_of_wide 4 Tryd.f4 rfl rfl rfl rfl rfl rfl rfl ⟨rfl, rfl, rfl, rfl, rfl⟩ rfl rfl rfl rfl rfl (by kernel_rfl) Tryd.func4 (by kernel_rfl)
    (of_decide_eq_true (by kernel_rfl)) (by unfold Func.isWrapper; first | (rw [if_pos (by decide +kernel)]; kernel_rfl) | (rw [if_neg (by decide +kernel)]; exact ⟨rfl, rfl⟩))
    (fun os started H enc _ => rearKeeps_lifted os started H enc)
theorem rearKeeps_proved : Rows.RearKeepsCardSaid :=
  Claim7.holds_tied_plain_at .later [] [.data] true (true, "8373405fcbf2cee226382fee390bd7ba0b61dd52971eae1a3fd12d45f8928637") true
    rearKeeps_over (fun _ h => by cases h) (by kernel_rfl) (fun _ h => by cases h) rearKeeps_row_tie rfl ⟨rfl, rfl⟩ (by kernel_rfl) rfl
    (fun f fn hf hfn => by
      obtain rfl : f = 4 := Option.some.inj ((show Tryd.prog.funcNamed "swash/swashlaw14.RearKeeps" = some 4 by kernel_rfl).symm.trans hf) |>.symm
      obtain rfl : fn = Tryd.f4 := (Option.some.inj (Tryd.func4.symm.trans hfn)).symm
      exact ⟨by kernel_rfl, fun j t ht => by
        have hall : (Tryd.f4.params.toList.all fun u => !Tryd.prog.wantsStandIn u) = true := by kernel_rfl
        have hm : t ∈ Tryd.f4.params.toList := Array.mem_toList_iff.2 (Array.mem_of_getElem? ht)
        exact (show Tryd.prog.wantsStandIn t = false by simpa using List.all_eq_true.1 hall t hm)⟩)
    (by kernel_rfl)
#print axioms rearKeeps_proved
end Go.Proofs.YtlhnfpkenlenjaaDoor
