
/- The walk of ChainBack. ChainBack returns true for every list of chains and whatever bytes stand behind them, and changes nothing: chains are read as they were written. No condition beside the row's own. -/
import Derived.Test.YthehcbbdkiomnaaJ01
import Derived.Test.YthehcbbdkiomnaaJ09
import Derived.Test.YthehcbbdkiomnaaJ05
namespace Go.Proofs.Ythehcbbdkiomnaa
open Go.RowKit Go.Lib

set_option maxRecDepth 100000 in
set_option maxHeartbeats 12800000 in
theorem chainBack_walk (la : Option Addr) (n lc : Nat) (ps : List LCh) (am : Option Addr) (nm cm : Nat) (T : List UInt8) (w : World) (h : Has w la (lchV ps)) (hl : ps.length = n) (hok : ∀ p ∈ ps, p.Ok w) (hnc : n ≤ lc) (hcm : lc ≤ maxLen)
    (hT : Has w am (bytesV T)) (hTl : T.length = nm) (hA : am = none → cm = 0) :
    Calls Try.prog 7 #[.slice la n lc, .slice am nm cm] w fun e w' => e = .returned (.bool true) ∧ Below w.heap.size w w' := by
  have hAC := allocC
  have hAF := allocF
  have HSP := Lib.hid (fun W (_ : Below w.heap.size w W) => speaks19_any W)
  have HBG := Lib.hid (fun W (hW : Below w.heap.size w W) => big19_any la n lc ps W (h.below hW) hl (fun p hp => (hok p hp).below hW) hnc hcm)
  have HWR := Lib.hid (fun W (hW : Below w.heap.size w W) (h10 : n ≤ 10) (hf : ∀ p ∈ ps, p.Few) => write19_any la n lc ps W (h.below hW) hl (fun p hp => (hok p hp).below hW) h10 hf)
  have HWF := Lib.hid (show ∀ p ∈ ps, p.Wf from fun p hp => (hok p hp).wf)
  have HL := Lib.hid hl
  have HH := Lib.hid h
  have HOK := Lib.hid hok
  have HT := Lib.hid hT
  have HTL := Lib.hid hTl
  have HA := Lib.hid hA
  clear h hok hl hnc hcm hT hTl hA
  go_enter Try.func7, Try.ntmps7
  go_wp2_with (first | (go_at_call 21; (with_reducible refine (HSP.out _ (by exact blw)).mono ?_); rintro e w1 ⟨rfl, hb1⟩; have h1c := bc hb1; have h1f := bf hb1; have h1z := hb1.size; try simp only [World.size_alloc, World.size_drew] at h1z))
  have HB1 := Lib.hid hb1
  clear h1c h1f h1z
  refine (HBG.out w1 hb1).mono ?_
  rintro e w2 ⟨⟨b, rfl, hb⟩, hb2⟩
  have HB2 := Lib.hid (hb1.trans (hb2.mono hb1.size))
  clear hb1 hb2 HBG HSP
  cases b with
  | true =>
    go_wp2_with fail
    go_ret
    exact ⟨rfl, HB2.out⟩
  | false =>
    obtain ⟨h10, hf⟩ := hb rfl
    by_cases h100 : nm ≤ 100
    case neg =>
      have d1 : decide ((100 : Int) < (nm : Int)) = true := by simp; omega
      have d2 : decide (100 < nm) = true := by simp; omega
      go_wp2_with fail
      go_ret
      exact ⟨rfl, HB2.out⟩
    have d1 : decide ((100 : Int) < (nm : Int)) = false := by simp; omega
    have d2 : decide (100 < nm) = false := by simp; omega
    have hlen := chsL_le ps hf
    rw [HL.out] at hlen
    have hback := chs_back T HWF.out hf (by rw [HL.out]; exact h10)
    have hbl := chsB_length ps
    have hwr := HWR.out w2 HB2.out h10 hf
    obtain ⟨BS, hBS⟩ : ∃ BS, BS = chsB ps := ⟨_, rfl⟩
    rw [← hBS] at hwr hback hbl
    obtain ⟨N, hN⟩ : ∃ N, N = BS.length := ⟨_, rfl⟩
    rw [← hN] at hwr hbl
    have HN := Lib.hid hN
    have HBK := Lib.hid hback
    have HW := Lib.hid hwr
    have hN5 : N ≤ 60000 := by omega
    have HFW := Lib.hid hf
    clear hb hlen hback hbl hwr hBS hN HWR hf
    go_wp2_with (first
      | (go_at_call 26; (with_reducible refine HW.out.mono ?_); rintro e w3 ⟨a3, c3, rfl, ho3, k31, k32, _, hb3⟩; have HO3 := Lib.hid ho3; have HB3 := Lib.hid (HB2.out.trans (hb3.mono HB2.out.size)); have hB3 := hb3.size; have HW3 := Lib.hid hb3; clear ho3 hb3)
      | (at_builtin; refine wpApp rfl _ _ 22 rfl w2.heap.size 5 (.int .u8 0) 1 1 Try.underlying22 u8_info rfl (by decide) _ N (bytesV BS) rfl HO3.out am nm cm (bytesV T) rfl (by rw [bytesV_length, HTL.out, Nat.mul_one]) (HT.out.below HB3.out) HA.out (bytesV_one _) (by unfold maxLen; omega) (by omega) (by omega) ?_; intro a4 c4 w4 hown4 k41 k42 k43 hb4 hg4; rw [← bytesV_append] at hown4; have HBH := Lib.hid (bhas_of_owns (L := 0) hown4); have HB4 := Lib.hid (HB2.out.trans (((show Below w2.heap.size w2 w3 from HW3.out).trans hb4).mono HB2.out.size)); clear hown4 hb4 hg4 k43; (try dsimp only [Act.put]); (try simp only [List.setIfInBounds_toArray, List.set_cons_succ, List.set_cons_zero])))
    refine (hread_any 0 a4 (N + nm) c4 (BS ++ T) w4 HBH.out (by rw [List.length_append, ← HN.out, HTL.out]) k41 k42 (by omega) (Nat.zero_le _)).mono ?_
    rintro e w5 ⟨(⟨rs, ao, co, _, hd, rfl, hrs⟩ | ⟨hno, _⟩), hb5⟩
    case inr => exact absurd HBK.out.1 hno
    rw [HBK.out.2] at hd
    have HB5 := Lib.hid (HB4.out.trans (hb5.mono HB4.out.size))
    have hrl : rs.length = n := by have := congrArg List.length hd; rw [List.length_map, List.length_map, HL.out] at this; exact this
    have HRD := Lib.hid hd
    have HRS := Lib.hid hrs
    have HRL := Lib.hid hrl
    rw [hrl]
    clear hd hrs hb5 hrl d1 d2
    have dn : ((n : Int) != (n : Int)) = false := bne_self_eq_false' _
    go_wp2_with fail
    go_loopw [43] (fun i wr => ∃ k : Nat, k ≤ n ∧ i = .int .i64 (k : Nat) ∧ Below w5.heap.size w5 wr) (fun i _ => n - (Go.RowKit.intOf i).toNat)
    case atStart => exact ⟨0, Nat.zero_le _, rfl, Below.refl _ _⟩
    case round =>
      obtain ⟨k, hk, rfl, hb⟩ := hrel
      rename World => wr
      have HBW := Lib.hid (HB5.out.trans (hb.mono HB5.out.size))
      have HB := Lib.hid hb
      have hzr := hb.size
      by_cases hlt : k < n
      case neg =>
        obtain rfl : n = k := by omega
        have dk : decide ((n : Int) < (n : Int)) = false := by simp
        clear hlt hk hb dn
        go_wp2_with fail
        go_ret
        exact ⟨rfl, HBW.out⟩
      obtain ⟨p, hp⟩ : ∃ p, ps[k]? = some p := ⟨_, List.getElem?_eq_getElem (by rw [HL.out]; exact hlt)⟩
      obtain ⟨r, hr⟩ : ∃ r, rs[k]? = some r := ⟨_, List.getElem?_eq_getElem (by rw [HRL.out]; exact hlt)⟩
      have hrd : r.d = p.d := by
        have := congrArg (fun l => l[k]?) HRD.out
        simp only [List.getElem?_map, hp, hr, Option.map_some, Option.some.injEq] at this
        exact this
      have HPK := Lib.hid ((HOK.out p (List.mem_of_getElem? hp)).below HBW.out)
      have HRK := Lib.hid ((HRS.out.each r (List.mem_of_getElem? hr)).below hb)
      obtain ⟨bE, oE, rfl, hbE, hcE⟩ := flat_cells (f := LCh.enc) (z := 4) (fun _ => rfl) (by decide) (HH.out.below HBW.out) hp
      have e0 := hcE 0 (by decide) _ rfl
      have e1 := hcE 1 (by decide) _ rfl
      have e2 := hcE 2 (by decide) _ rfl
      have e3 := hcE 3 (by decide) _ rfl
      rw [Nat.add_zero] at e0
      obtain ⟨bA, oA, rfl, hbA, hcA⟩ := flat_cells (f := ChR.enc) (z := 3) (fun _ => rfl) (by decide) (has_of_owns (HRS.out.below hb).row) hr
      have c0 := hcA 0 (by decide) _ rfl
      have c1 := hcA 1 (by decide) _ rfl
      have c2 := hcA 2 (by decide) _ rfl
      rw [Nat.add_zero] at c0
      have HDT := Lib.hid (HFW.out p (List.mem_of_getElem? hp)).data
      have hm1 := (HFW.out p (List.mem_of_getElem? hp)).rules
      have hm2 := (HFW.out p (List.mem_of_getElem? hp)).subs
      clear hcE hcA hp hr hb
      obtain ⟨first, ar, cr, rules, sa, sc, subs, more⟩ := p
      obtain ⟨rf, rar, rcr, rsa, rsc, rru, rsu⟩ := r
      have hrd : (⟨rf, rru, rsu.map SubR.d⟩ : ChD) = ⟨first, rules, subs.map LSub.d⟩ := hrd
      injection hrd with hd1 hd2 hd3
      subst hd1 hd2
      have hsl : rsu.length = subs.length := by have := congrArg List.length hd3; rwa [List.length_map, List.length_map] at this
      have HSD := Lib.hid hd3
      simp only at e0 e1 e2 e3 c0 c1 c2 HDT hm1 hm2
      rw [hsl] at c2
      obtain ⟨mR, hmR⟩ : ∃ m, m = rru.length := ⟨_, rfl⟩
      obtain ⟨mS, hmS⟩ : ∃ m, m = subs.length := ⟨_, rfl⟩
      rw [← hmR] at e1 c1 hm1
      rw [← hmS] at e2 c2 hsl hm2
      have HMR := Lib.hid hmR
      have HMS := Lib.hid hmS
      have HSL := Lib.hid hsl
      have dk : decide ((k : Int) < (n : Int)) = true := by simpa using hlt
      clear hmR hmS hd3 hsl dn
      go_wp2_with fail
      obtain ⟨U, hU⟩ : ∃ U, U = wr.alloc (Obj.cells #[.int .u32 (rf : Nat), .slice ar mR cr, .slice sa mS sc, .int .u8 (more : Nat)] 76) := ⟨_, rfl⟩
      have hbU : Below wr.heap.size wr U := by rw [hU]; exact balloc (brefl _) _
      have h8 : U.heap[wr.heap.size]? = some (.cells #[.int .u32 (rf : Nat), .slice ar mR cr, .slice sa mS sc, .int .u8 (more : Nat)] 76 (0, 0)) := by rw [hU, heap_push, if_pos rfl]
      have c0 := (hbU.cell (p := ⟨bA, oA + k * 3, none⟩) hbA).trans c0
      have c1 := (hbU.cell (p := ⟨bA, oA + k * 3 + 1, none⟩) hbA).trans c1
      have c2 := (hbU.cell (p := ⟨bA, oA + k * 3 + 2, none⟩) hbA).trans c2
      have hbAU : bA < U.heap.size := Nat.lt_of_lt_of_le hbA hbU.size
      have HPU := Lib.hid (HPK.out.below hbU)
      have HRU := Lib.hid (HRK.out.below hbU)
      have HBU := Lib.hid (HBW.out.trans (hbU.mono HBW.out.size))
      have HB5U := Lib.hid (HB.out.trans (hbU.mono hzr))
      rw [← hU]
      generalize wr.heap.size = g8 at *
      clear hU hbU e0 e1 e2 e3 HPK HRK HBW HB hzr hbE
      have q8 := fun o => cell_of_heap h8 o
      have l8 := (Array.getElem?_eq_some_iff.1 h8).1
      refine wp_region_tree (.step 0 (.step 1 (.step 2 (.step 3 (.step 4 (.step 5 (.step 6 (.step 7 (.step 8 (.step 9 (.step 10 (.step 11 (.step 12 (.step 13 (.step 14 (.step 15 (.step 16 (.step 17 (.step 18 (.step 19 (.step 20 (.step 21 (.step 22 (.step 23 (.step 24 (.step 25 (.step 26 (.step 27 (.step 28 (.step 29 (.step 30 (.step 31 .nil)))))))))))))))))))))))))))))))) (by kernel_rfl) (by kernel_rfl) (by kernel_rfl) (by kernel_rfl) (by intro _ _ d_ _ _ h_; cases d_ <;> first | exact h_ | (dsimp +zetaDelta only at h_ ⊢; exact h_)) (fun w' => ∃ p : Wld U [], w' = p.val) (wld_start _ _) ?_
      have hG_ := @wldC U
      (refine tree_quiet gtA (by rfl) (by rfl) (fun K_ hK_ => ?_); go_big_quiet_op; refine hK_ _ ?_; clear hK_ K_)
      (refine tree_quiet gtA (by rfl) (by rfl) (fun K_ hK_ => ?_); go_big_quiet_op; refine hK_ _ ?_; clear hK_ K_)
      (refine tree_quiet gtA (by rfl) (by rfl) (fun K_ hK_ => ?_); go_big_quiet_op; refine hK_ _ ?_; clear hK_ K_)
      (refine tree_quiet gtA (by rfl) (by rfl) (fun K_ hK_ => ?_); go_big_quiet_op; refine hK_ _ ?_; clear hK_ K_)
      (refine tree_quiet gtA (by rfl) (by rfl) (fun K_ hK_ => ?_); go_big_quiet_op; refine hK_ _ ?_; clear hK_ K_)
      (refine tree_quiet gtA (by rfl) (by rfl) (fun K_ hK_ => ?_); go_big_quiet_op; refine hK_ _ ?_; clear hK_ K_)
      (refine tree_quiet gtA (by rfl) (by rfl) (fun K_ hK_ => ?_); go_big_quiet_op; refine hK_ _ ?_; clear hK_ K_)
      (refine tree_quiet gtA (by rfl) (by rfl) (fun K_ hK_ => ?_); go_big_quiet_op; refine hK_ _ ?_; clear hK_ K_)
      (refine tree_quiet gtA (by rfl) (by rfl) (fun K_ hK_ => ?_); go_big_quiet_op; refine hK_ _ ?_; clear hK_ K_)
      (refine tree_quiet gtA (by rfl) (by rfl) (fun K_ hK_ => ?_); go_big_quiet_op; refine hK_ _ ?_; clear hK_ K_)
      (refine tree_quiet gtA (by rfl) (by rfl) (fun K_ hK_ => ?_); go_big_quiet_op; refine hK_ _ ?_; clear hK_ K_)
      (refine tree_quiet gtA (by rfl) (by rfl) (fun K_ hK_ => ?_); go_big_quiet_op; refine hK_ _ ?_; clear hK_ K_)
      (refine tree_quiet gtA (by rfl) (by rfl) (fun K_ hK_ => ?_); go_big_quiet_op; refine hK_ _ ?_; clear hK_ K_)
      (refine tree_quiet gtA (by rfl) (by rfl) (fun K_ hK_ => ?_); go_big_quiet_op; refine hK_ _ ?_; clear hK_ K_)
      (refine tree_quiet gtA (by rfl) (by rfl) (fun K_ hK_ => ?_); go_big_quiet_op; refine hK_ _ ?_; clear hK_ K_)
      (refine tree_quiet gtA (by rfl) (by rfl) (fun K_ hK_ => ?_); go_big_quiet_op; refine hK_ _ ?_; clear hK_ K_)
      (refine tree_quiet gtA (by rfl) (by rfl) (fun K_ hK_ => ?_); go_big_quiet_op; refine hK_ _ ?_; clear hK_ K_)
      (refine tree_quiet gtA (by rfl) (by rfl) (fun K_ hK_ => ?_); go_big_quiet_op; refine hK_ _ ?_; clear hK_ K_)
      (refine tree_quiet gtA (by rfl) (by rfl) (fun K_ hK_ => ?_); go_big_quiet_op; refine hK_ _ ?_; clear hK_ K_)
      (refine tree_quiet gtA (by rfl) (by rfl) (fun K_ hK_ => ?_); go_big_quiet_op; refine hK_ _ ?_; clear hK_ K_)
      (refine tree_quiet gtA (by rfl) (by rfl) (fun K_ hK_ => ?_); go_big_quiet_op; refine hK_ _ ?_; clear hK_ K_)
      (refine tree_quiet gtA (by rfl) (by rfl) (fun K_ hK_ => ?_); go_big_quiet_op; refine hK_ _ ?_; clear hK_ K_)
      (refine tree_quiet gtA (by rfl) (by rfl) (fun K_ hK_ => ?_); go_big_quiet_op; refine hK_ _ ?_; clear hK_ K_)
      (refine tree_quiet gtA (by rfl) (by rfl) (fun K_ hK_ => ?_); go_big_quiet_op; refine hK_ _ ?_; clear hK_ K_)
      (refine tree_quiet gtA (by rfl) (by rfl) (fun K_ hK_ => ?_); go_big_quiet_op; refine hK_ _ ?_; clear hK_ K_)
      (refine tree_quiet gtA (by rfl) (by rfl) (fun K_ hK_ => ?_); go_big_quiet_op; refine hK_ _ ?_; clear hK_ K_)
      (refine tree_quiet gtA (by rfl) (by rfl) (fun K_ hK_ => ?_); go_big_quiet_op; refine hK_ _ ?_; clear hK_ K_)
      (refine tree_quiet gtA (by rfl) (by rfl) (fun K_ hK_ => ?_); go_big_quiet_op; refine hK_ _ ?_; clear hK_ K_)
      (refine tree_quiet gtA (by rfl) (by rfl) (fun K_ hK_ => ?_); go_big_quiet_op; refine hK_ _ ?_; clear hK_ K_)
      (refine tree_quiet gtA (by rfl) (by rfl) (fun K_ hK_ => ?_); go_big_quiet_op; refine hK_ _ ?_; clear hK_ K_)
      (refine tree_quiet gtA (by rfl) (by rfl) (fun K_ hK_ => ?_); go_big_quiet_op; refine hK_ _ ?_; clear hK_ K_)
      (refine tree_quiet gtA (by rfl) (by rfl) (fun K_ hK_ => ?_); go_big_quiet_op; refine hK_ _ ?_; clear hK_ K_)
      refine tree_nil ?_
      clear hG_
      have C1 := Lib.hid c1
      have C2 := Lib.hid c2
      have H8 := Lib.hid h8
      obtain ⟨X, hX⟩ : ∃ X, X = U.drew := ⟨_, rfl⟩
      have hbX : Below U.heap.size U X := by rw [hX]; exact bdrew1 (brefl U)
      have h8 := (hbX.block g8 l8).trans h8
      have q8 := fun o => cell_of_heap h8 o
      have l8X := (Array.getElem?_eq_some_iff.1 h8).1
      rw [← hX]
      clear hX c0 c1 c2
      go_wp2_with fail
      go_loopw [83] (fun i wv => ∃ j : Nat, j ≤ mR ∧ i = .int .i64 (j : Nat) ∧ Below U.heap.size U wv) (fun i _ => mR - (Go.RowKit.intOf i).toNat)
      case atStart => exact ⟨0, Nat.zero_le _, rfl, hbX⟩
      clear hbX q8 l8X h8
      case round =>
        obtain ⟨j, hj, rfl, hbv⟩ := hrel
        rename World => wv
        have HBVU := Lib.hid hbv
        have k1 := (hbv.cell (p := ⟨bA, oA + k * 3 + 1, none⟩) hbAU).trans C1.out
        have k2 := (hbv.cell (p := ⟨bA, oA + k * 3 + 2, none⟩) hbAU).trans C2.out
        have lA := Nat.lt_of_lt_of_le hbAU hbv.size
        by_cases hltj : j < mR
        · obtain ⟨x, hx⟩ : ∃ x, rru[j]? = some x := ⟨_, List.getElem?_eq_getElem (by rw [← HMR.out]; exact hltj)⟩
          obtain ⟨r1, r2, r3, r4⟩ := HPU.out.rules x (List.mem_of_getElem? hx)
          obtain ⟨bR, oR, hbR, hblR, hcR⟩ := flat_cells (f := lruV) (z := 4) (fun _ => rfl) (by decide) (HPU.out.hasR.below hbv) hx
          obtain ⟨bQ, oQ, hbQ, hblQ, hcQ⟩ := flat_cells (f := RuD.enc) (z := 4) (fun _ => rfl) (by decide) ((HRU.out.rules.below hbv).1) hx
          have x0 := hcR 0 (by decide) _ rfl
          have x1 := hcR 1 (by decide) _ rfl
          have x2 := hcR 2 (by decide) _ rfl
          have x3 := hcR 3 (by decide) _ rfl
          have y0 := hcQ 0 (by decide) _ rfl
          have y1 := hcQ 1 (by decide) _ rfl
          have y2 := hcQ 2 (by decide) _ rfl
          have y3 := hcQ 3 (by decide) _ rfl
          rw [Nat.add_zero] at x0 y0
          (try simp only at hbR hbQ)
          subst hbR hbQ
          have dj : decide ((j : Int) < (mR : Int)) = true := by simpa using hltj
          clear hx hcR hcQ
          obtain ⟨rt, rv, re, rd⟩ := x
          simp only at x0 x1 x2 x3 y0 y1 y2 y3 r1 r2 r3 r4
          have v1 := u16_conv rt r1
          have v2 := u16_conv rv r2
          have b1 : ((rt : Int) != (rt : Int)) = false := bne_self_eq_false' _
          have b2 : ((rv : Int) != (rv : Int)) = false := bne_self_eq_false' _
          have b3 : ((re : Int) != (re : Int)) = false := bne_self_eq_false' _
          have b4 : ((rd : Int) != (rd : Int)) = false := bne_self_eq_false' _
          go_wp2_with fail
          go_roundw
          case rel => exact ⟨j + 1, hltj, by go_num, HBVU.out.trans ((balloc (balloc (brefl _) _) _).mono HBVU.out.size)⟩
          case measure => simp [Go.RowKit.intOf]; omega
        · obtain rfl : mR = j := by omega
          have dj : decide ((mR : Int) < (mR : Int)) = false := by simp
          have h8 := (hbv.block g8 l8).trans H8.out
          have q8 := fun o => cell_of_heap h8 o
          have l8v := (Array.getElem?_eq_some_iff.1 h8).1
          clear hltj hj
          go_wp2_with fail
          clear q8 l8v h8 k1 k2 lA
          go_loopw [128] (fun i wu => ∃ j : Nat, j ≤ mS ∧ i = .int .i64 (j : Nat) ∧ Below U.heap.size U wu) (fun i _ => mS - (Go.RowKit.intOf i).toNat)
          case atStart => exact ⟨0, Nat.zero_le _, rfl, HBVU.out⟩
          clear hbv HBVU
          case round =>
            obtain ⟨j, hj, rfl, hbv⟩ := hrel
            rename World => wu
            have HBVU := Lib.hid hbv
            have hzv := hbv.size
            have k2 := (hbv.cell (p := ⟨bA, oA + k * 3 + 2, none⟩) hbAU).trans C2.out
            have lA := Nat.lt_of_lt_of_le hbAU hbv.size
            by_cases hltj : j < mS
            · obtain ⟨s, hs⟩ : ∃ s, subs[j]? = some s := ⟨_, List.getElem?_eq_getElem (by rw [← HMS.out]; exact hltj)⟩
              obtain ⟨t, ht⟩ : ∃ t, rsu[j]? = some t := ⟨_, List.getElem?_eq_getElem (by rw [HSL.out]; exact hltj)⟩
              have htd : t.d = s.d := by
                have := congrArg (fun l => l[j]?) HSD.out
                simp only [List.getElem?_map, hs, ht, Option.map_some, Option.some.injEq] at this
                exact this
              obtain ⟨s1, s2, s3, s4⟩ := HPU.out.subs s (List.mem_of_getElem? hs)
              have ht5 := (HRU.out.each t (List.mem_of_getElem? ht)).below hbv
              have s5 := HDT.out s (List.mem_of_getElem? hs)
              obtain ⟨bS, oS, hbS, hblS, hcS⟩ := flat_cells (f := LSub.enc) (z := 3) (fun _ => rfl) (by decide) (HPU.out.hasS.below hbv) hs
              obtain ⟨bQ, oQ, hbQ, hblQ, hcQ⟩ := flat_cells (f := SubR.enc) (z := 3) (fun _ => rfl) (by decide) ((HRU.out.subs.below hbv).1) ht
              have x0 := hcS 0 (by decide) _ rfl
              have x1 := hcS 1 (by decide) _ rfl
              have x2 := hcS 2 (by decide) _ rfl
              have y0 := hcQ 0 (by decide) _ rfl
              have y1 := hcQ 1 (by decide) _ rfl
              have y2 := hcQ 2 (by decide) _ rfl
              rw [Nat.add_zero] at x0 y0
              (try simp only at hbS hbQ)
              subst hbS hbQ
              have dj : decide ((j : Int) < (mS : Int)) = true := by simpa using hltj
              have hsh := s3.below hbv
              clear hs ht hcS hcQ s3 s4
              obtain ⟨co, fl, sda, sdc, sbs⟩ := s
              obtain ⟨tco, tfl, ta, tn, tc, tbs⟩ := t
              have htd : (⟨tco, tfl, tbs⟩ : SubD9) = ⟨co, fl, sbs⟩ := htd
              injection htd with e1 e2 e3
              subst e1 e2 e3
              have htl : tbs.length = tn := ht5.len
              obtain ⟨m, hm⟩ : ∃ m, m = tbs.length := ⟨_, rfl⟩
              obtain rfl : m = tn := by rw [hm, htl]
              simp only at x0 x1 x2 y0 y1 y2 s5 hsh
              rw [← hm] at x2 s5
              have HMD := Lib.hid hm
              have HTB := Lib.hid ht5.has.has
              have HSB := Lib.hid hsh
              obtain ⟨st, hst⟩ : ∃ st, st = str tbs := ⟨_, rfl⟩
              have HST := Lib.hid hst
              have b1 : ((tco : Int) != (tco : Int)) = false := bne_self_eq_false' _
              have b2 : ((tfl : Int) != (tfl : Int)) = false := bne_self_eq_false' _
              clear htl hm ht5 hsh hst
              go_wp2_with fail
              obtain ⟨X, hX⟩ : ∃ X, X = (wu.alloc (Obj.cells #[.int .u32 (tco : Nat), .int .u32 (tfl : Nat), .slice sda m sdc] 87)).alloc (Obj.cells #[.int .u32 (tco : Nat), .int .u32 (tfl : Nat), .slice ta m tc] 91) := ⟨_, rfl⟩
              have hbX : Below wu.heap.size wu X := by rw [hX]; exact balloc (balloc (brefl _) _) _
              have z13 : X.heap[wu.heap.size]? = some (.cells #[.int .u32 (tco : Nat), .int .u32 (tfl : Nat), .slice sda m sdc] 87 (0, 0)) := by rw [hX, heap_push, if_neg (by simp), heap_push, if_pos rfl]
              have z14 : X.heap[wu.heap.size + 1]? = some (.cells #[.int .u32 (tco : Nat), .int .u32 (tfl : Nat), .slice ta m tc] 91 (0, 0)) := by rw [hX, heap_push, if_pos (by simp)]
              have HBY := Lib.hid (fun W (hW : Below X.heap.size X W) => bytes_any ta m tc tbs W ((HTB.out.below hbX).below hW) HMD.out.symm (by omega))
              have HSX := Lib.hid (fun W (hW : Below X.heap.size X W) => (HSB.out.below hbX).below hW)
              have HBN := Lib.hid (HBVU.out.trans (hbX.mono hzv))
              have q13 := fun o => cell_of_heap z13 o
              have q14 := fun o => cell_of_heap z14 o
              have l13 := (Array.getElem?_eq_some_iff.1 z13).1
              have l14 := (Array.getElem?_eq_some_iff.1 z14).1
              (try simp only [World.size_alloc])
              rw [← hX]
              clear hX hbX z13 z14 x0 x1 x2 y0 y1 y2 hbv k2 lA hblS hblQ
              have hsd0 : ∀ p : Wld X [], (convert 22 9 (.slice sda m sdc)).run Try.prog p.val = .ok (.string st) p.val := (fun p => by rw [HST.out]; exact run_str Try.underlying22 Try.underlying5 Try.underlying9 (has_wld (HSX.out X (Below.refl _ _)) p) HMD.out.symm)
              refine wp_region_tree (.step 0 (.step 1 (.step 2 (.step 3 (.step 4 (.step 5 (.step 6 (.step 7 (.step 8 (.step 9 (.step 10 (.step 11 (.step 12 (.step 13 (.step 14 (.step 17 (.step 18 (.step 19 (.step 15 (.narrow (.step 16 (.step 20 (.step 21 .nil))))))))))))))))))))))) (by kernel_rfl) (by kernel_rfl) (by kernel_rfl) (by kernel_rfl) (by intro _ _ d_ _ _ h_; cases d_ <;> first | exact h_ | (dsimp +zetaDelta only at h_ ⊢; exact h_)) (fun w' => ∃ p : Wld X [], w' = p.val) (wld_start _ _) ?_
              have hG_ := @wldC X
              (refine tree_quiet gtA (by rfl) (by rfl) (fun K_ hK_ => ?_); go_big_quiet_op; refine hK_ _ ?_; clear hK_ K_)
              (refine tree_quiet gtA (by rfl) (by rfl) (fun K_ hK_ => ?_); go_big_quiet_op; refine hK_ _ ?_; clear hK_ K_)
              (refine tree_quiet gtA (by rfl) (by rfl) (fun K_ hK_ => ?_); go_big_quiet_op; refine hK_ _ ?_; clear hK_ K_)
              (refine tree_quiet gtA (by rfl) (by rfl) (fun K_ hK_ => ?_); go_big_quiet_op; refine hK_ _ ?_; clear hK_ K_)
              (refine tree_quiet gtA (by rfl) (by rfl) (fun K_ hK_ => ?_); go_big_quiet_op; refine hK_ _ ?_; clear hK_ K_)
              (refine tree_quiet gtA (by rfl) (by rfl) (fun K_ hK_ => ?_); go_big_quiet_op; refine hK_ _ ?_; clear hK_ K_)
              (refine tree_quiet gtA (by rfl) (by rfl) (fun K_ hK_ => ?_); go_big_quiet_op; refine hK_ _ ?_; clear hK_ K_)
              (refine tree_quiet gtA (by rfl) (by rfl) (fun K_ hK_ => ?_); go_big_quiet_op; refine hK_ _ ?_; clear hK_ K_)
              (refine tree_quiet gtA (by rfl) (by rfl) (fun K_ hK_ => ?_); go_big_quiet_op; refine hK_ _ ?_; clear hK_ K_)
              (refine tree_quiet gtA (by rfl) (by rfl) (fun K_ hK_ => ?_); go_big_quiet_op; refine hK_ _ ?_; clear hK_ K_)
              (refine tree_quiet gtA (by rfl) (by rfl) (fun K_ hK_ => ?_); go_big_quiet_op; refine hK_ _ ?_; clear hK_ K_)
              (refine tree_quiet gtA (by rfl) (by rfl) (fun K_ hK_ => ?_); go_big_quiet_op; refine hK_ _ ?_; clear hK_ K_)
              (refine tree_quiet gtA (by rfl) (by rfl) (fun K_ hK_ => ?_); go_big_quiet_op; refine hK_ _ ?_; clear hK_ K_)
              (refine tree_quiet gtA (by rfl) (by rfl) (fun K_ hK_ => ?_); go_big_quiet_op; refine hK_ _ ?_; clear hK_ K_)
              (refine tree_quiet gtA (by rfl) (by rfl) (fun K_ hK_ => ?_); go_big_quiet_op; refine hK_ _ ?_; clear hK_ K_)
              (refine tree_quiet gtA (by rfl) (by rfl) (fun K_ hK_ => ?_); go_big_quiet_op; refine hK_ _ ?_; clear hK_ K_)
              (refine tree_quiet gtA (by rfl) (by rfl) (fun K_ hK_ => ?_); go_big_quiet_op; refine hK_ _ ?_; clear hK_ K_)
              (refine tree_quiet gtA (by rfl) (by rfl) (fun K_ hK_ => ?_); go_big_quiet_op; refine hK_ _ ?_; clear hK_ K_)
              (refine tree_run gtA (by rfl) (by rfl) (fun K_ hK_ => ?_); have HK_ := Lib.hid hK_; clear hK_; go_wp2_with ((go_at_call 27; (with_reducible refine (HBY.out _ (by exact blw)).mono ?_); rintro e wb ⟨ab, cb, rfl, hown, kb1, kb2, kb3, hbb⟩; have hbc := bc hbb; have hbf := bf hbb; have hbz := hbb.size; (try simp only [World.size_alloc, World.size_drew] at hbz); have hXb : Below X.heap.size X wb := (show Below X.heap.size X _ from blw); have hsb : ∀ p : Wld wb [], (convert 22 9 (.slice ab m cb)).run Try.prog p.val = .ok (.string st) p.val := (fun p => by rw [HST.out]; exact str_wld' hown HMD.out.symm [] (by simp) p); have hsd : ∀ p : Wld wb [], (convert 22 9 (.slice sda m sdc)).run Try.prog p.val = .ok (.string st) p.val := (fun p => by rw [HST.out]; exact run_str Try.underlying22 Try.underlying5 Try.underlying9 (has_wld (HSX.out wb hXb) p) HMD.out.symm); have HXB := Lib.hid hXb; clear hown kb1 kb2 kb3 hXb)); refine HK_.out _ _ (wld_ofA) ?_; clear HK_)
              refine tree_move (by repeat (first | with_reducible exact same_below (brefl _) | with_reducible exact same_below (bdrew1 (brefl _)) | with_reducible assumption | with_reducible refine same_drew ?_ | (with_reducible refine same_set ?_ (by first | (left; simp; done) | (right; simp; done) | (right; simp; omega)) _) | with_reducible refine same_then ?_ (by assumption) | with_reducible refine same_alloc ?_ _ | exact same_below (brefl _) | exact same_realloc (by simp) | exact same_below (bdrew1 (brefl _)) | assumption | refine same_drew ?_ | refine same_then ?_ (by assumption) | refine same_alloc ?_ _ | (refine same_set ?_ (by first | (left; simp; done) | (right; simp; done) | (right; simp; omega)) _))) ?_; clear hG_; intro hG_
              (refine tree_quiet gtA (by rfl) (by rfl) (fun K_ hK_ => ?_); go_big_quiet_op; refine hK_ _ ?_; clear hK_ K_)
              (refine tree_quiet gtA (by rfl) (by rfl) (fun K_ hK_ => ?_); go_big_quiet_op; refine hK_ _ ?_; clear hK_ K_)
              (refine tree_quiet gtA (by rfl) (by rfl) (fun K_ hK_ => ?_); go_big_quiet_op; refine hK_ _ ?_; clear hK_ K_)
              refine tree_nil ?_
              clear hG_
              go_wp2_with fail
              go_roundw
              case rel => exact ⟨j + 1, hltj, by go_num, HBN.out.trans (HXB.out.mono HBN.out.size)⟩
              case measure => simp [Go.RowKit.intOf]; omega
            · obtain rfl : mS = j := by omega
              have dj : decide ((mS : Int) < (mS : Int)) = false := by simp
              clear hltj hj
              go_wp2_with fail
              go_roundw
              case rel => exact ⟨k + 1, hlt, by go_num, HB5U.out.trans (HBVU.out.mono HB5U.out.size)⟩
              case measure => simp [Go.RowKit.intOf]; omega

open Go.ChangeShapes Go.WideShapes Go.ChangeAt Go.RowKit
open Go.ChangeMaps (open_string shut_string)

set_option maxRecDepth 100000 in
theorem chainBack_walks (H : Type) (enc : TypeId × Value → H) : Walks H enc 7 [69, 22] := by
  intro W base args ds p hval hA _
  obtain ⟨v0, vs0, d0, ds0, p0, q0, hargs, rfl, rfl, h0, r0⟩ := trodAll_cons hA
  obtain ⟨v1, vs1, d1, ds1, p1, q1, rfl, rfl, rfl, h1, r1⟩ := trodAll_cons r0
  obtain ⟨rfl, rfl, rfl⟩ := trodAll_nil r1
  obtain rfl : args = #[v0, v1] := by cases args; simp_all
  obtain ⟨a, c, ps, rfl, hn, hc, hh, hok⟩ := open_lchs (hval 0 69 v0 rfl rfl) h0
  obtain ⟨a1, n1, c1, bs, rfl, hb, hl, hn1, hc1, hA1⟩ := open_bytes Try.underlying22 Try.underlying5 (by kernel_rfl) (hval 1 22 v1 rfl rfl) h1
  exact chainBack_walk a ps.length c ps a1 n1 c1 bs W hh rfl hok hn hc hb hl hA1

set_option maxRecDepth 100000 in
theorem chainBack_lifted (os : Os) (started : os.Started) (H : Type) (enc : TypeId × Value → H) :
    ReturnsInHanded {} Try.checked os 7 .any (Rows.chainBackSpec.pre6 enc Try.prog Try.f7 Rows.chainBackRow.domain false) (Rows.chainBackSpec.post enc Try.prog Try.f7 false true false false) :=
  lift_law (s := Rows.chainBackSpec) (fn := Try.f7) started (by kernel_rfl) Try.func7
    (ChangeSpec.witness6 (enc := enc) (C := Try.checked) false ⟨#[], #[.slice none 0 0, .slice none 0 0], []⟩ 8 (by kernel_rfl) (by kernel_rfl) (by kernel_rfl) (by kernel_rfl))
    rfl rfl (fun ds h => by match ds, h with | [d0, d1], _ => rfl) (by intro t ht; simp [Try.params7] at ht; first | (subst ht; exact ⟨by kernel_rfl, of_decide_eq_true (by kernel_rfl)⟩) | (obtain rfl | rfl := ht <;> exact ⟨by kernel_rfl, of_decide_eq_true (by kernel_rfl)⟩) | (obtain rfl | rfl | rfl := ht <;> exact ⟨by kernel_rfl, of_decide_eq_true (by kernel_rfl)⟩) | (obtain rfl | rfl | rfl | rfl := ht <;> exact ⟨by kernel_rfl, of_decide_eq_true (by kernel_rfl)⟩))
    (by rw [Try.params7]; exact chainBack_walks H enc)
theorem chainBack_over : Rows.chainBackRow.holds Try.pinned (OpenSpec.ofChange Rows.chainBackSpec) :=
  OpenClaim.holds_of_wide 7 Try.f7 rfl rfl rfl rfl rfl rfl rfl ⟨rfl, rfl, rfl, rfl, rfl⟩ rfl rfl rfl rfl rfl (by kernel_rfl) Try.func7 (by kernel_rfl)
    (of_decide_eq_true (by kernel_rfl)) (by unfold Func.isWrapper; first | (rw [if_pos (by decide +kernel)]; kernel_rfl) | (rw [if_neg (by decide +kernel)]; exact ⟨rfl, rfl⟩))
    (fun os started H enc _ => chainBack_lifted os started H enc)
theorem chainBack_proved : Rows.ChainBackSaid := chainBack_over
#print axioms chainBack_proved
end Go.Proofs.Ythehcbbdkiomnaa
