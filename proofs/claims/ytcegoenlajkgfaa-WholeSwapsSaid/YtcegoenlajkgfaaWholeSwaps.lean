
/- The walk of WholeSwaps. WholeSwaps returns true for every two rows of numbers, and every line, and changes nothing: two subtables of single glyphs, one behind the other, are the one that gives each glyph what the second gives what the first gives it. No condition beside the row's own. -/
import Derived.Test.YtcegoenlajkgfaaJ11
import Derived.Test.YtcegoenlajkgfaaJ09
namespace Go.Proofs.Ytcegoenlajkgfaa
open Go.RowKit Go.Lib

theorem newG_bndW {ids : List Int} (h : ∀ z ∈ ids, -9223372036854775808 ≤ z ∧ z ≤ 9223372036854775807) : ∀ p ∈ newG ids, -9223372036854775808 ≤ p.1 ∧ p.1 ≤ 9223372036854775807 := by
  intro p hp
  obtain ⟨k, hk⟩ := List.mem_iff_getElem?.1 hp
  rw [newG_get] at hk
  cases hz : ids[k]? with
  | none => rw [hz] at hk; cases hk
  | some z =>
    rw [hz] at hk
    cases hk
    exact h z (List.mem_of_getElem? hz)
theorem swap_bnd {l : List Nat} (hx : ∀ x ∈ l, x ≤ 65535) {L : List (Int × Int)} (h : ∀ p ∈ L, -9223372036854775808 ≤ p.1 ∧ p.1 ≤ 9223372036854775807) : ∀ p ∈ swapL (give8 l) L, -9223372036854775808 ≤ p.1 ∧ p.1 ≤ 9223372036854775807 := by
  intro p hp
  unfold swapL at hp
  obtain ⟨q, hq, rfl⟩ := List.mem_map.1 hp
  have h0 := h q hq
  unfold swap1
  split
  · exact h0
  · split
    · have : (give8 l q.1).1 ≤ 65535 := by
        unfold give8
        split
        · exact getD_le hx _
        · exact Nat.zero_le _
      show -9223372036854775808 ≤ (((give8 l q.1).1 : Nat) : Int) ∧ _ ≤ _
      omega
    · exact h0
theorem wrun_any (Bt gx : Nat) (l : List Nat) (hl : l.length ≤ 200) (hx : ∀ x ∈ l, x ≤ 65535) (B gl : Nat) (a : Option Addr) (c : Nat) (L : List (Int × Int)) (W : World) (hT : SwIs Bt gx (sub8 l) (row8 l) W) (hG : GIs B gl a c L W) (hB : B ≤ W.heap.size) (hi : ∀ p ∈ L, -9223372036854775808 ≤ p.1 ∧ p.1 ≤ 9223372036854775807) (hn : L.length ≤ 1000) :
    Calls Try.prog 34 #[.pointer (some ⟨gx, 0, none⟩), .pointer (some ⟨gl, 0, none⟩)] W fun e w' => e = .returned (.int .i64 0) ∧ GIs B gl a c (swapL (give8 l) L) w' ∧ KeepC B (ownS (a.map (·.block))) W w' := by
  have := swrun_any Bt gx (sub8 l) (row8 l) B gl a c L W hT ((sub8_ok l (by omega) 40).fit (by decide) (.inl rfl)) hG hB hi (by omega)
  rwa [show lkR (sub8 l) (row8 l) = give8 l from funext fun id => lk_give8 l (by omega) hx id] at this
set_option maxRecDepth 100000 in
set_option maxHeartbeats 12800000 in
theorem wholeSwaps_walk (aF : Option Addr) (nF cF : Nat) (f : List Nat) (aG : Option Addr) (nG cG : Nat) (g : List Nat) (aI : Option Addr) (nI cI : Nat) (ids : List Int) (w : World) (hF : Has w aF (u16V f)) (hfl : f.length = nF) (hf : ∀ x ∈ f, x ≤ 65535) (hG : Has w aG (u16V g)) (hgl : g.length = nG) (hg : ∀ x ∈ g, x ≤ 65535)
    (hi : Has w aI (iv ids)) (hil : ids.length = nI) (hiw : ∀ z ∈ ids, -9223372036854775808 ≤ z ∧ z ≤ 9223372036854775807) :
    Calls Try.prog 11 #[.slice aF nF cF, .slice aG nG cG, .slice aI nI cI] w fun e w' => e = .returned (.bool true) ∧ Below w.heap.size w w' := by
  have hAC := allocC
  have hAF := allocF
  have HF := Lib.hid hF
  have HFL := Lib.hid hfl
  have HF16 := Lib.hid hf
  have HG := Lib.hid hG
  have HGL := Lib.hid hgl
  have HG16 := Lib.hid hg
  have HI := Lib.hid hi
  have HIL := Lib.hid hil
  have HIW := Lib.hid hiw
  have HO1 := Lib.hid (show Calls Try.prog 38 #[.slice (some ⟨w.heap.size, 0, none⟩) 1 1] (w.alloc (.cells #[.int .u16 1] 63)) fun e w' => ∃ gx, e = .returned (.pointer (some ⟨gx, 0, none⟩)) ∧ Below (w.alloc (.cells #[.int .u16 1] 63)).heap.size (w.alloc (.cells #[.int .u16 1] 63)) w' from
    (wof_any (some ⟨w.heap.size, 0, none⟩) 1 1 [1] _ (has_alloc w #[.int .u16 1] 63) rfl (by decide) (by decide)).mono (by rintro e w' ⟨gx, he, _, hb⟩; exact ⟨gx, he, hb⟩))
  clear hF hfl hf hG hgl hg hi hil hiw
  by_cases hb1 : 100 < nF
  · have d1 : decide (100 < (nF : Int)) = true := by simp; omega
    go_enter Try.func11, Try.ntmps11
    go_wp2_with (go_at_call 38; (with_reducible refine HO1.out.mono ?_); rintro e w1 ⟨gx, rfl, hb1⟩)
    go_ret
    exact ⟨rfl, blw⟩
  have d1 : decide (100 < (nF : Int)) = false := by simp; omega
  by_cases hb2 : 100 < nG
  · have d2 : decide (100 < (nG : Int)) = true := by simp; omega
    go_enter Try.func11, Try.ntmps11
    go_wp2_with (go_at_call 38; (with_reducible refine HO1.out.mono ?_); rintro e w1 ⟨gx, rfl, hb1⟩)
    go_ret
    exact ⟨rfl, blw⟩
  have d2 : decide (100 < (nG : Int)) = false := by simp; omega
  by_cases hb3 : 60 < nI
  · have d3 : decide (60 < (nI : Int)) = true := by simp; omega
    go_enter Try.func11, Try.ntmps11
    go_wp2_with (go_at_call 38; (with_reducible refine HO1.out.mono ?_); rintro e w1 ⟨gx, rfl, hb1⟩)
    go_ret
    exact ⟨rfl, blw⟩
  have d3 : decide (60 < (nI : Int)) = false := by simp; omega
  have hnF : nF ≤ 100 := by omega
  have hnG : nG ≤ 100 := by omega
  have hnI : nI ≤ 60 := by omega
  obtain ⟨M, hM⟩ : ∃ M, M = max nF nG := ⟨_, rfl⟩
  have m1 : max (nF : Int) (nG : Int) = (M : Int) := by omega
  have hM1 : M ≤ 100 := by omega
  have HM := Lib.hid hM
  clear hb1 hb2 hb3 hM
  go_enter Try.func11, Try.ntmps11
  go_wp2_with (go_at_call 38; (with_reducible refine HO1.out.mono ?_); rintro e w1 ⟨gx, rfl, hb1⟩; have HB1 := Lib.hid (show Below w.heap.size w w1 from by exact blw); clear hb1)
  have hz1 := HB1.out.size
  case inl =>
    have hMG : nG = M := by have := HM.out; omega
    subst hMG
    clear m1
    go_loopw [8, 41] (fun v i wr => ∃ j : Nat, j ≤ nG ∧ i = .int .i64 (j : Nat) ∧ (∃ a c, v = .slice a j c ∧ wr.ownsRow w.heap.size 63 1 (.slice a j c) j (u16V (bothP f g j)) ∧ (a = none → c = 0)) ∧ Below w.heap.size w wr) (fun _ i _ => nG - (Go.RowKit.intOf i).toNat)
    case atStart => exact ⟨0, Nat.zero_le _, rfl, ⟨none, 0, rfl, World.ownsRow_nil _ _ _ _, fun _ => rfl⟩, HB1.out⟩
    case round =>
      obtain ⟨j, hj, rfl, ⟨aB, cB, rfl, ho, hA⟩, hb⟩ := hrel
      rename World => wr
      have HO := Lib.hid ho
      have HA := Lib.hid hA
      have HB := Lib.hid hb
      have hzr := hb.size
      clear ho hA hb
      by_cases hlt : j < nG
      · have HBS := Lib.hid (bothP_succ f g j)
        have hx1 : bothAt f g j ≤ 65535 := bothAt_le HF16.out HG16.out (by omega)
        have hba : bothAt f g j = fAt g (fAt f j) := rfl
        by_cases hjf : j < nF
        · have dj : decide ((j : Int) < (nF : Int)) = true := by simp; omega
          obtain ⟨bI, oI, hbI, hblI, hcI⟩ := (HF.out.below HB.out).get (by rw [u16V_length, HFL.out]; omega)
          have e1 := hcI j _ (u16V_get f j (by rw [HFL.out]; exact hjf))
          have hf1 : fAt f j = f.getD j 0 := by unfold fAt; rw [if_pos (by rw [HFL.out]; exact hjf)]
          have hx := getD_le HF16.out j
          rw [hf1] at hba
          generalize f.getD j 0 = x at *
          have hc1 : IntKind.i64.wrap ((x : Nat) : Int) = (x : Int) := IntWalk.i64_in _ (by omega)
          subst hbI
          clear hcI hf1
          by_cases hxg : x < nG
          · have dx : decide ((x : Int) < (nG : Int)) = true := by simp; omega
            obtain ⟨bJ, oJ, hbJ, hblJ, hcJ⟩ := (HG.out.below HB.out).get (by rw [u16V_length, HGL.out]; omega)
            have e2 := hcJ x _ (u16V_get g x (by rw [HGL.out]; exact hxg))
            have hg1 : fAt g x = g.getD x 0 := by unfold fAt; rw [if_pos (by rw [HGL.out]; exact hxg)]
            rw [hg1] at hba
            have hy := getD_le HG16.out x
            generalize g.getD x 0 = y at *
            have hc2 : IntKind.i64.wrap ((y : Nat) : Int) = (y : Int) := IntWalk.i64_in _ (by omega)
            have hc3 : IntKind.u16.wrap ((y : Nat) : Int) = (y : Int) := IntWalk.u16_in _ (by omega)
            rw [hba] at HBS
            subst hbJ
            clear hcJ hg1 hba hx1
            go_wp2_with (at_builtin; refine wpApp rfl _ _ 62 rfl w.heap.size 63 (.int .u16 0) 1 2 Try.underlying62 info_u16m rfl (by decide) _ j (u16V (bothP f g j)) rfl (owns_below HO.out (balloc (brefl wr) _) (Nat.le_refl _)) (some ⟨wr.heap.size, 0, none⟩) 1 1 (u16V [y]) rfl rfl (has_alloc wr _ _) (fun h => by cases h) (u16V_one _) (by unfold maxLen; omega) (by omega) (by simp only [World.size_alloc]; omega) ?_; intro a7 c7 w7 ho7 _ _ k73 hb7 _; have HO7 := Lib.hid ho7; have HA7 := Lib.hid k73; have HB7 := Lib.hid (HB.out.trans ((balloc (brefl wr) _).mono hzr |>.trans hb7)); clear ho7 k73 hb7)
            go_roundw
            case rel => exact ⟨j + 1, hlt, by go_num, ⟨a7, c7, rfl, by rw [HBS.out]; have := HO7.out; unfold u16V at this ⊢; rwa [List.map_append], HA7.out⟩, HB7.out⟩
            case measure => simp only [Go.RowKit.intOf]; omega
          · have dx : decide ((x : Int) < (nG : Int)) = false := by simp; omega
            have hg1 : fAt g x = x := by unfold fAt; rw [if_neg (by rw [HGL.out]; exact hxg)]
            rw [hg1] at hba
            have hc3 : IntKind.u16.wrap ((x : Nat) : Int) = (x : Int) := IntWalk.u16_in _ (by omega)
            rw [hba] at HBS
            clear hg1 hba hx1
            go_wp2_with (at_builtin; refine wpApp rfl _ _ 62 rfl w.heap.size 63 (.int .u16 0) 1 2 Try.underlying62 info_u16m rfl (by decide) _ j (u16V (bothP f g j)) rfl (owns_below HO.out (balloc (brefl wr) _) (Nat.le_refl _)) (some ⟨wr.heap.size, 0, none⟩) 1 1 (u16V [x]) rfl rfl (has_alloc wr _ _) (fun h => by cases h) (u16V_one _) (by unfold maxLen; omega) (by omega) (by simp only [World.size_alloc]; omega) ?_; intro a7 c7 w7 ho7 _ _ k73 hb7 _; have HO7 := Lib.hid ho7; have HA7 := Lib.hid k73; have HB7 := Lib.hid (HB.out.trans ((balloc (brefl wr) _).mono hzr |>.trans hb7)); clear ho7 k73 hb7)
            go_roundw
            case rel => exact ⟨j + 1, hlt, by go_num, ⟨a7, c7, rfl, by rw [HBS.out]; have := HO7.out; unfold u16V at this ⊢; rwa [List.map_append], HA7.out⟩, HB7.out⟩
            case measure => simp only [Go.RowKit.intOf]; omega
        · have dj : decide ((j : Int) < (nF : Int)) = false := by simp; omega
          have hf1 : fAt f j = j := by unfold fAt; rw [if_neg (by rw [HFL.out]; exact hjf)]
          rw [hf1] at hba
          have hjg : j < nG := by have := HM.out; omega
          have dx : decide ((j : Int) < (nG : Int)) = true := by simp; omega
          obtain ⟨bJ, oJ, hbJ, hblJ, hcJ⟩ := (HG.out.below HB.out).get (by rw [u16V_length, HGL.out]; omega)
          have e2 := hcJ j _ (u16V_get g j (by rw [HGL.out]; exact hjg))
          have hg1 : fAt g j = g.getD j 0 := by unfold fAt; rw [if_pos (by rw [HGL.out]; exact hjg)]
          rw [hg1] at hba
          have hy := getD_le HG16.out j
          generalize g.getD j 0 = y at *
          have hc2 : IntKind.i64.wrap ((y : Nat) : Int) = (y : Int) := IntWalk.i64_in _ (by omega)
          have hc3 : IntKind.u16.wrap ((y : Nat) : Int) = (y : Int) := IntWalk.u16_in _ (by omega)
          rw [hba] at HBS
          subst hbJ
          clear hcJ hg1 hba hf1 hx1
          go_wp2_with (at_builtin; refine wpApp rfl _ _ 62 rfl w.heap.size 63 (.int .u16 0) 1 2 Try.underlying62 info_u16m rfl (by decide) _ j (u16V (bothP f g j)) rfl (owns_below HO.out (balloc (brefl wr) _) (Nat.le_refl _)) (some ⟨wr.heap.size, 0, none⟩) 1 1 (u16V [y]) rfl rfl (has_alloc wr _ _) (fun h => by cases h) (u16V_one _) (by unfold maxLen; omega) (by omega) (by simp only [World.size_alloc]; omega) ?_; intro a7 c7 w7 ho7 _ _ k73 hb7 _; have HO7 := Lib.hid ho7; have HA7 := Lib.hid k73; have HB7 := Lib.hid (HB.out.trans ((balloc (brefl wr) _).mono hzr |>.trans hb7)); clear ho7 k73 hb7)
          go_roundw
          case rel => exact ⟨j + 1, hlt, by go_num, ⟨a7, c7, rfl, by rw [HBS.out]; have := HO7.out; unfold u16V at this ⊢; rwa [List.map_append], HA7.out⟩, HB7.out⟩
          case measure => simp only [Go.RowKit.intOf]; omega
      · obtain rfl : nG = j := by omega
        have hBL : bothP f g nG = bothL f g := by unfold bothL; rw [HFL.out, HGL.out, ← HM.out]
        have HHB := Lib.hid (show Has wr aB (u16V (bothL f g)) from hBL ▸ has_of_owns HO.out)
        have hbll : (bothL f g).length = nG := by rw [← hBL, bothP_length]
        have hf2 : f.length ≤ 200 := by rw [HFL.out]; omega
        have hg2 : g.length ≤ 200 := by rw [HGL.out]; omega
        have hble := bothL_le HF16.out HG16.out hf2 hg2
        have HOF := Lib.hid (fun W (hW : Below wr.heap.size wr W) => wof_any aF nF cF f W ((HF.out.below HB.out).below hW) HFL.out (by omega) HF16.out)
        have HOG := Lib.hid (fun W (hW : Below wr.heap.size wr W) => wof_any aG nG cG g W ((HG.out.below HB.out).below hW) HGL.out (by omega) HG16.out)
        have HOB := Lib.hid (fun W (hW : Below wr.heap.size wr W) => wof_any aB nG cB (bothL f g) W (HHB.out.below hW) hbll (by omega) hble)
        have hb0 := newG_bndW HIW.out
        have hn0 : (newG ids).length ≤ 1000 := by rw [newG_length, HIL.out]; omega
        have HRF := Lib.hid (fun Bt gx gl a c W hT hG hB => wrun_any Bt gx f hf2 HF16.out w.heap.size gl a c (newG ids) W hT hG hB hb0 hn0)
        have HRG := Lib.hid (fun Bt gx gl a c W hT hG hB => wrun_any Bt gx g hg2 HG16.out w.heap.size gl a c (swapL (give8 f) (newG ids)) W hT hG hB (swap_bnd HF16.out hb0) (by rw [swapL_length]; exact hn0))
        have HRB := Lib.hid (fun Bt gx gl a c W hT hG hB => wrun_any Bt gx (bothL f g) (by rw [hbll]; omega) hble w.heap.size gl a c (newG ids) W hT hG hB hb0 hn0)
        have hall := both_all f g hf2 hg2 (newG ids)
        have hLn : (swapL (give8 (bothL f g)) (newG ids)).length = nI := by rw [swapL_length, newG_length, HIL.out]
        rw [hall] at HRG
        generalize swapL (give8 (bothL f g)) (newG ids) = L at *
        generalize swapL (give8 f) (newG ids) = L1 at *
        clear hall hb0 hn0 hble hbll hBL hf2 hg2 d1 d2 d3 hlt
        go_wp2_with (first
          | (go_at_call 38; (with_reducible refine (HOF.out _ (Below.refl _ _)).mono ?_); rintro e w2 ⟨ga, rfl, hT, hb2⟩; have HTA := Lib.hid hT; have HBR2 := Lib.hid hb2; clear hT hb2)
          | (go_at_call 38; (with_reducible refine (HOG.out _ HBR2.out).mono ?_); rintro e w3 ⟨gb, rfl, hT, hb3⟩; have HTB := Lib.hid hT; have HTA3 := Lib.hid (HTA.out.below hb3); have HBR3 := Lib.hid (HBR2.out.trans (hb3.mono HBR2.out.size)); clear hT hb3)
          | (go_at_call 38; (with_reducible refine (HOB.out _ HBR3.out).mono ?_); rintro e w4 ⟨gc, rfl, hT, hb4⟩; have HTC := Lib.hid hT; have HTA4 := Lib.hid (HTA3.out.below hb4); have HTB4 := Lib.hid (HTB.out.below hb4); have HB4 := Lib.hid (HB.out.trans ((HBR3.out.trans (hb4.mono HBR3.out.size)).mono hzr)); clear hT hb4)
          | (go_at_call 17; (with_reducible refine (gnew_any aI nI cI ids w4 (HI.out.below HB4.out) HIL.out (by omega)).mono ?_); rintro e w5 ⟨gx, ax, cx, rfl, hGx, hgx, hb5⟩; have HGX := Lib.hid hGx; have HB45 := Lib.hid hb5; have HB5 := Lib.hid (HB4.out.trans (hb5.mono HB4.out.size)); clear hGx hgx hb5)
          | (go_at_call 17
             (with_reducible refine (gnew_any aI nI cI ids w5 (HI.out.below HB5.out) HIL.out (by omega)).mono ?_)
             rintro e w6 ⟨gy, ay, cy, rfl, hGy, hgy, hb6⟩
             have hb46 := HB45.out.trans (hb6.mono HB45.out.size)
             have HGX6 := Lib.hid ((HGX.out.below hb6).mono HB4.out.size)
             have HGY6 := Lib.hid (hGy.mono HB5.out.size)
             have HNE := Lib.hid (show ∀ k, ay.map (·.block) = some k → ax.map (·.block) ≠ some k from fun k hk hx => by have h1 := (hGy.rowIn k hk).1; have h2 := (HGX.out.rowIn k hx).2; omega)
             have HB6 := Lib.hid (HB5.out.trans (hb6.mono HB5.out.size))
             have HTA6 := Lib.hid (HTA4.out.below hb46)
             have HTB6 := Lib.hid (HTB4.out.below hb46)
             have HTC6 := Lib.hid (HTC.out.below hb46)
             clear hGy hgy hb6 hb46)
          | (go_at_call 34; (with_reducible refine (HRF.out _ _ _ _ _ w6 HTA6.out HGX6.out HB6.out.size).mono ?_); rintro e w7 ⟨rfl, hG7, hk7⟩; have HGX7 := Lib.hid hG7; have HGY7 := Lib.hid (HGY6.out.keepS2 hk7 HNE.out); have HTB7 := Lib.hid (HTB6.out.keep hk7); have HTC7 := Lib.hid (HTC6.out.keep hk7); have HB7 := Lib.hid (HB6.out.trans hk7.below); clear hG7 hk7)
          | (go_at_call 34; (with_reducible refine (HRG.out _ _ _ _ _ w7 HTB7.out HGX7.out HB7.out.size).mono ?_); rintro e w8 ⟨rfl, hG8, hk8⟩; have HGX8 := Lib.hid hG8; have HGY8 := Lib.hid (HGY7.out.keepS2 hk8 HNE.out); have HTC8 := Lib.hid (HTC7.out.keep hk8); have HB8 := Lib.hid (HB7.out.trans hk8.below); clear hG8 hk8)
          | (go_at_call 34; (with_reducible refine (HRB.out _ _ _ _ _ w8 HTC8.out HGY8.out HB8.out.size).mono ?_); rintro e w9 ⟨rfl, hG9, hk9⟩; have HGY9 := Lib.hid hG9; have HGX9 := Lib.hid (HGX8.out.keepS2 hk9 (fun k hk h2 => HNE.out k h2 hk)); have HB9 := Lib.hid (HB8.out.trans hk9.below); have HLX := Lib.hid (show Calls Try.prog 23 #[.pointer (some ⟨gx, 0, none⟩)] w9 fun e w' => e = .returned (.int .i64 (nI : Nat)) ∧ w9 = w' from hLn ▸ glen_any w.heap.size gx ax cx L w9 HGX9.out); have HLY := Lib.hid (show Calls Try.prog 23 #[.pointer (some ⟨gy, 0, none⟩)] w9 fun e w' => e = .returned (.int .i64 (nI : Nat)) ∧ w9 = w' from hLn ▸ glen_any w.heap.size gy ay cy L w9 HGY9.out); clear hG9 hk9)
          | (go_at_call 23; (with_reducible refine HLX.out.mono ?_); rintro e w_ ⟨rfl, rfl⟩)
          | (go_at_call 23; (with_reducible refine HLY.out.mono ?_); rintro e w_ ⟨rfl, rfl⟩)
          | (go_at_call 21; (with_reducible refine (show Calls Try.prog 21 #[.pointer (some ⟨gx, 0, none⟩)] w9 fun e w' => ∃ a' c', e = .returned (.slice a' nI c') ∧ w'.ownsRow w9.heap.size 57 2 (.slice a' nI c') nI (gv L) ∧ nI ≤ c' ∧ c' ≤ maxLen ∧ (a' = none → c' = 0) ∧ Below w9.heap.size w9 w' from hLn ▸ gglyphs_any w.heap.size gx ax cx L w9 HGX9.out (by rw [hLn]; omega)).mono ?_); rintro e w10 ⟨a10, c10, rfl, ho, _, _, _, hb10⟩; have HO10 := Lib.hid ho; have HGY10 := Lib.hid (HGY9.out.below hb10); have HB10 := Lib.hid (HB9.out.trans (hb10.mono HB9.out.size)); clear ho hb10)
          | (go_at_call 21; (with_reducible refine (show Calls Try.prog 21 #[.pointer (some ⟨gy, 0, none⟩)] w10 fun e w' => ∃ a' c', e = .returned (.slice a' nI c') ∧ w'.ownsRow w10.heap.size 57 2 (.slice a' nI c') nI (gv L) ∧ nI ≤ c' ∧ c' ≤ maxLen ∧ (a' = none → c' = 0) ∧ Below w10.heap.size w10 w' from hLn ▸ gglyphs_any w.heap.size gy ay cy L w10 HGY10.out (by rw [hLn]; omega)).mono ?_); rintro e w11 ⟨a11, c11, rfl, ho, _, _, _, hb11⟩; have HO11 := Lib.hid ho; have HO10' := Lib.hid (owns_below HO10.out hb11 (Nat.le_refl _)); have HB11 := Lib.hid (HB10.out.trans (hb11.mono HB10.out.size)); clear ho hb11))
        go_loopw [121] (fun i wq => ∃ j : Nat, j ≤ nI ∧ i = .int .i64 (j : Nat) ∧ Below w11.heap.size w11 wq) (fun i _ => nI - (Go.RowKit.intOf i).toNat)
        case atStart => exact ⟨0, Nat.zero_le _, rfl, Below.refl _ _⟩
        case round =>
          obtain ⟨j, hj, rfl, hb⟩ := hrel
          rename World => wq
          have HBQ := Lib.hid hb
          have HX := Lib.hid (owns_below HO10'.out hb (Nat.le_refl _))
          have HY := Lib.hid (owns_below HO11.out hb (Nat.le_refl _))
          have HLN := Lib.hid hLn
          clear hb
          by_cases hlt : j < nI
          · obtain ⟨gi, p, hgi0, hgi, hgz, hp, hc1, hc2, _, _, _, _⟩ := grow_at HX.out HLN.out hlt
            obtain ⟨gk, q, hgk0, hgk, hkz, hq, hd1, hd2, _, _, _, _⟩ := grow_at HY.out HLN.out hlt
            rw [hp] at hq
            injection hq with hq
            subst hq hgi0 hgk0
            obtain ⟨p1, p2⟩ := p
            simp only at hc1 hc2 hd1 hd2
            clear hp
            go_wp2_with fail
            refine wp_region_tree (.step 0 (.step 1 (.step 2 (.step 3 (.step 4 (.step 5 (.step 6 (.step 7 (.step 8 .nil))))))))) (by kernel_rfl) (by kernel_rfl) (by kernel_rfl) (by kernel_rfl) (by intro _ _ d_ _ _ h_; cases d_ <;> first | exact h_ | (dsimp +zetaDelta only at h_ ⊢; exact h_)) (fun w' => ∃ p : Wld wq [], w' = p.val) (wld_start _ _) ?_
            have hG_ := @wldC wq
            (refine tree_quiet (by simp only [List.getElem?_toArray, List.getElem?_cons_succ, List.getElem?_cons_zero]; rfl) (by rfl) (by rfl) (fun K_ hK_ => ?_); go_big_quiet_op; refine hK_ _ ?_; clear hK_ K_)
            (refine tree_quiet (by simp only [List.getElem?_toArray, List.getElem?_cons_succ, List.getElem?_cons_zero]; rfl) (by rfl) (by rfl) (fun K_ hK_ => ?_); go_big_quiet_op; refine hK_ _ ?_; clear hK_ K_)
            (refine tree_quiet (by simp only [List.getElem?_toArray, List.getElem?_cons_succ, List.getElem?_cons_zero]; rfl) (by rfl) (by rfl) (fun K_ hK_ => ?_); go_big_quiet_op; refine hK_ _ ?_; clear hK_ K_)
            (refine tree_quiet (by simp only [List.getElem?_toArray, List.getElem?_cons_succ, List.getElem?_cons_zero]; rfl) (by rfl) (by rfl) (fun K_ hK_ => ?_); go_big_quiet_op; refine hK_ _ ?_; clear hK_ K_)
            (refine tree_quiet (by simp only [List.getElem?_toArray, List.getElem?_cons_succ, List.getElem?_cons_zero]; rfl) (by rfl) (by rfl) (fun K_ hK_ => ?_); go_big_quiet_op; refine hK_ _ ?_; clear hK_ K_)
            (refine tree_quiet (by simp only [List.getElem?_toArray, List.getElem?_cons_succ, List.getElem?_cons_zero]; rfl) (by rfl) (by rfl) (fun K_ hK_ => ?_); go_big_quiet_op; refine hK_ _ ?_; clear hK_ K_)
            (refine tree_quiet (by simp only [List.getElem?_toArray, List.getElem?_cons_succ, List.getElem?_cons_zero]; rfl) (by rfl) (by rfl) (fun K_ hK_ => ?_); go_big_quiet_op; refine hK_ _ ?_; clear hK_ K_)
            (refine tree_quiet (by simp only [List.getElem?_toArray, List.getElem?_cons_succ, List.getElem?_cons_zero]; rfl) (by rfl) (by rfl) (fun K_ hK_ => ?_); go_big_quiet_op; refine hK_ _ ?_; clear hK_ K_)
            (refine tree_quiet (by simp only [List.getElem?_toArray, List.getElem?_cons_succ, List.getElem?_cons_zero]; rfl) (by rfl) (by rfl) (fun K_ hK_ => ?_); go_big_quiet_op; refine hK_ _ ?_; clear hK_ K_)
            refine tree_nil ?_
            clear hG_
            go_wp2_with fail
            go_roundw
            case rel => exact ⟨j + 1, hlt, by go_num, HBQ.out.drew⟩
            case measure => simp only [Go.RowKit.intOf]; omega
          · obtain rfl : nI = j := by omega
            have HE := Lib.hid (HB11.out.trans (HBQ.out.mono HB11.out.size))
            go_wp2_with fail
            go_ret
            exact ⟨rfl, HE.out⟩
  case inr =>
    have hMG : nF = M := by have := HM.out; omega
    subst hMG
    clear m1
    go_loopw [8, 41] (fun v i wr => ∃ j : Nat, j ≤ nF ∧ i = .int .i64 (j : Nat) ∧ (∃ a c, v = .slice a j c ∧ wr.ownsRow w.heap.size 63 1 (.slice a j c) j (u16V (bothP f g j)) ∧ (a = none → c = 0)) ∧ Below w.heap.size w wr) (fun _ i _ => nF - (Go.RowKit.intOf i).toNat)
    case atStart => exact ⟨0, Nat.zero_le _, rfl, ⟨none, 0, rfl, World.ownsRow_nil _ _ _ _, fun _ => rfl⟩, HB1.out⟩
    case round =>
      obtain ⟨j, hj, rfl, ⟨aB, cB, rfl, ho, hA⟩, hb⟩ := hrel
      rename World => wr
      have HO := Lib.hid ho
      have HA := Lib.hid hA
      have HB := Lib.hid hb
      have hzr := hb.size
      clear ho hA hb
      by_cases hlt : j < nF
      · have HBS := Lib.hid (bothP_succ f g j)
        have hx1 : bothAt f g j ≤ 65535 := bothAt_le HF16.out HG16.out (by omega)
        have hba : bothAt f g j = fAt g (fAt f j) := rfl
        by_cases hjf : j < nF
        · have dj : decide ((j : Int) < (nF : Int)) = true := by simp; omega
          obtain ⟨bI, oI, hbI, hblI, hcI⟩ := (HF.out.below HB.out).get (by rw [u16V_length, HFL.out]; omega)
          have e1 := hcI j _ (u16V_get f j (by rw [HFL.out]; exact hjf))
          have hf1 : fAt f j = f.getD j 0 := by unfold fAt; rw [if_pos (by rw [HFL.out]; exact hjf)]
          have hx := getD_le HF16.out j
          rw [hf1] at hba
          generalize f.getD j 0 = x at *
          have hc1 : IntKind.i64.wrap ((x : Nat) : Int) = (x : Int) := IntWalk.i64_in _ (by omega)
          subst hbI
          clear hcI hf1
          by_cases hxg : x < nG
          · have dx : decide ((x : Int) < (nG : Int)) = true := by simp; omega
            obtain ⟨bJ, oJ, hbJ, hblJ, hcJ⟩ := (HG.out.below HB.out).get (by rw [u16V_length, HGL.out]; omega)
            have e2 := hcJ x _ (u16V_get g x (by rw [HGL.out]; exact hxg))
            have hg1 : fAt g x = g.getD x 0 := by unfold fAt; rw [if_pos (by rw [HGL.out]; exact hxg)]
            rw [hg1] at hba
            have hy := getD_le HG16.out x
            generalize g.getD x 0 = y at *
            have hc2 : IntKind.i64.wrap ((y : Nat) : Int) = (y : Int) := IntWalk.i64_in _ (by omega)
            have hc3 : IntKind.u16.wrap ((y : Nat) : Int) = (y : Int) := IntWalk.u16_in _ (by omega)
            rw [hba] at HBS
            subst hbJ
            clear hcJ hg1 hba hx1
            go_wp2_with (at_builtin; refine wpApp rfl _ _ 62 rfl w.heap.size 63 (.int .u16 0) 1 2 Try.underlying62 info_u16m rfl (by decide) _ j (u16V (bothP f g j)) rfl (owns_below HO.out (balloc (brefl wr) _) (Nat.le_refl _)) (some ⟨wr.heap.size, 0, none⟩) 1 1 (u16V [y]) rfl rfl (has_alloc wr _ _) (fun h => by cases h) (u16V_one _) (by unfold maxLen; omega) (by omega) (by simp only [World.size_alloc]; omega) ?_; intro a7 c7 w7 ho7 _ _ k73 hb7 _; have HO7 := Lib.hid ho7; have HA7 := Lib.hid k73; have HB7 := Lib.hid (HB.out.trans ((balloc (brefl wr) _).mono hzr |>.trans hb7)); clear ho7 k73 hb7)
            go_roundw
            case rel => exact ⟨j + 1, hlt, by go_num, ⟨a7, c7, rfl, by rw [HBS.out]; have := HO7.out; unfold u16V at this ⊢; rwa [List.map_append], HA7.out⟩, HB7.out⟩
            case measure => simp only [Go.RowKit.intOf]; omega
          · have dx : decide ((x : Int) < (nG : Int)) = false := by simp; omega
            have hg1 : fAt g x = x := by unfold fAt; rw [if_neg (by rw [HGL.out]; exact hxg)]
            rw [hg1] at hba
            have hc3 : IntKind.u16.wrap ((x : Nat) : Int) = (x : Int) := IntWalk.u16_in _ (by omega)
            rw [hba] at HBS
            clear hg1 hba hx1
            go_wp2_with (at_builtin; refine wpApp rfl _ _ 62 rfl w.heap.size 63 (.int .u16 0) 1 2 Try.underlying62 info_u16m rfl (by decide) _ j (u16V (bothP f g j)) rfl (owns_below HO.out (balloc (brefl wr) _) (Nat.le_refl _)) (some ⟨wr.heap.size, 0, none⟩) 1 1 (u16V [x]) rfl rfl (has_alloc wr _ _) (fun h => by cases h) (u16V_one _) (by unfold maxLen; omega) (by omega) (by simp only [World.size_alloc]; omega) ?_; intro a7 c7 w7 ho7 _ _ k73 hb7 _; have HO7 := Lib.hid ho7; have HA7 := Lib.hid k73; have HB7 := Lib.hid (HB.out.trans ((balloc (brefl wr) _).mono hzr |>.trans hb7)); clear ho7 k73 hb7)
            go_roundw
            case rel => exact ⟨j + 1, hlt, by go_num, ⟨a7, c7, rfl, by rw [HBS.out]; have := HO7.out; unfold u16V at this ⊢; rwa [List.map_append], HA7.out⟩, HB7.out⟩
            case measure => simp only [Go.RowKit.intOf]; omega
        · exact absurd hlt hjf
      · obtain rfl : nF = j := by omega
        have hBL : bothP f g nF = bothL f g := by unfold bothL; rw [HFL.out, HGL.out, ← HM.out]
        have HHB := Lib.hid (show Has wr aB (u16V (bothL f g)) from hBL ▸ has_of_owns HO.out)
        have hbll : (bothL f g).length = nF := by rw [← hBL, bothP_length]
        have hf2 : f.length ≤ 200 := by rw [HFL.out]; omega
        have hg2 : g.length ≤ 200 := by rw [HGL.out]; omega
        have hble := bothL_le HF16.out HG16.out hf2 hg2
        have HOF := Lib.hid (fun W (hW : Below wr.heap.size wr W) => wof_any aF nF cF f W ((HF.out.below HB.out).below hW) HFL.out (by omega) HF16.out)
        have HOG := Lib.hid (fun W (hW : Below wr.heap.size wr W) => wof_any aG nG cG g W ((HG.out.below HB.out).below hW) HGL.out (by omega) HG16.out)
        have HOB := Lib.hid (fun W (hW : Below wr.heap.size wr W) => wof_any aB nF cB (bothL f g) W (HHB.out.below hW) hbll (by omega) hble)
        have hb0 := newG_bndW HIW.out
        have hn0 : (newG ids).length ≤ 1000 := by rw [newG_length, HIL.out]; omega
        have HRF := Lib.hid (fun Bt gx gl a c W hT hG hB => wrun_any Bt gx f hf2 HF16.out w.heap.size gl a c (newG ids) W hT hG hB hb0 hn0)
        have HRG := Lib.hid (fun Bt gx gl a c W hT hG hB => wrun_any Bt gx g hg2 HG16.out w.heap.size gl a c (swapL (give8 f) (newG ids)) W hT hG hB (swap_bnd HF16.out hb0) (by rw [swapL_length]; exact hn0))
        have HRB := Lib.hid (fun Bt gx gl a c W hT hG hB => wrun_any Bt gx (bothL f g) (by rw [hbll]; omega) hble w.heap.size gl a c (newG ids) W hT hG hB hb0 hn0)
        have hall := both_all f g hf2 hg2 (newG ids)
        have hLn : (swapL (give8 (bothL f g)) (newG ids)).length = nI := by rw [swapL_length, newG_length, HIL.out]
        rw [hall] at HRG
        generalize swapL (give8 (bothL f g)) (newG ids) = L at *
        generalize swapL (give8 f) (newG ids) = L1 at *
        clear hall hb0 hn0 hble hbll hBL hf2 hg2 d1 d2 d3 hlt
        go_wp2_with (first
          | (go_at_call 38; (with_reducible refine (HOF.out _ (Below.refl _ _)).mono ?_); rintro e w2 ⟨ga, rfl, hT, hb2⟩; have HTA := Lib.hid hT; have HBR2 := Lib.hid hb2; clear hT hb2)
          | (go_at_call 38; (with_reducible refine (HOG.out _ HBR2.out).mono ?_); rintro e w3 ⟨gb, rfl, hT, hb3⟩; have HTB := Lib.hid hT; have HTA3 := Lib.hid (HTA.out.below hb3); have HBR3 := Lib.hid (HBR2.out.trans (hb3.mono HBR2.out.size)); clear hT hb3)
          | (go_at_call 38; (with_reducible refine (HOB.out _ HBR3.out).mono ?_); rintro e w4 ⟨gc, rfl, hT, hb4⟩; have HTC := Lib.hid hT; have HTA4 := Lib.hid (HTA3.out.below hb4); have HTB4 := Lib.hid (HTB.out.below hb4); have HB4 := Lib.hid (HB.out.trans ((HBR3.out.trans (hb4.mono HBR3.out.size)).mono hzr)); clear hT hb4)
          | (go_at_call 17; (with_reducible refine (gnew_any aI nI cI ids w4 (HI.out.below HB4.out) HIL.out (by omega)).mono ?_); rintro e w5 ⟨gx, ax, cx, rfl, hGx, hgx, hb5⟩; have HGX := Lib.hid hGx; have HB45 := Lib.hid hb5; have HB5 := Lib.hid (HB4.out.trans (hb5.mono HB4.out.size)); clear hGx hgx hb5)
          | (go_at_call 17
             (with_reducible refine (gnew_any aI nI cI ids w5 (HI.out.below HB5.out) HIL.out (by omega)).mono ?_)
             rintro e w6 ⟨gy, ay, cy, rfl, hGy, hgy, hb6⟩
             have hb46 := HB45.out.trans (hb6.mono HB45.out.size)
             have HGX6 := Lib.hid ((HGX.out.below hb6).mono HB4.out.size)
             have HGY6 := Lib.hid (hGy.mono HB5.out.size)
             have HNE := Lib.hid (show ∀ k, ay.map (·.block) = some k → ax.map (·.block) ≠ some k from fun k hk hx => by have h1 := (hGy.rowIn k hk).1; have h2 := (HGX.out.rowIn k hx).2; omega)
             have HB6 := Lib.hid (HB5.out.trans (hb6.mono HB5.out.size))
             have HTA6 := Lib.hid (HTA4.out.below hb46)
             have HTB6 := Lib.hid (HTB4.out.below hb46)
             have HTC6 := Lib.hid (HTC.out.below hb46)
             clear hGy hgy hb6 hb46)
          | (go_at_call 34; (with_reducible refine (HRF.out _ _ _ _ _ w6 HTA6.out HGX6.out HB6.out.size).mono ?_); rintro e w7 ⟨rfl, hG7, hk7⟩; have HGX7 := Lib.hid hG7; have HGY7 := Lib.hid (HGY6.out.keepS2 hk7 HNE.out); have HTB7 := Lib.hid (HTB6.out.keep hk7); have HTC7 := Lib.hid (HTC6.out.keep hk7); have HB7 := Lib.hid (HB6.out.trans hk7.below); clear hG7 hk7)
          | (go_at_call 34; (with_reducible refine (HRG.out _ _ _ _ _ w7 HTB7.out HGX7.out HB7.out.size).mono ?_); rintro e w8 ⟨rfl, hG8, hk8⟩; have HGX8 := Lib.hid hG8; have HGY8 := Lib.hid (HGY7.out.keepS2 hk8 HNE.out); have HTC8 := Lib.hid (HTC7.out.keep hk8); have HB8 := Lib.hid (HB7.out.trans hk8.below); clear hG8 hk8)
          | (go_at_call 34; (with_reducible refine (HRB.out _ _ _ _ _ w8 HTC8.out HGY8.out HB8.out.size).mono ?_); rintro e w9 ⟨rfl, hG9, hk9⟩; have HGY9 := Lib.hid hG9; have HGX9 := Lib.hid (HGX8.out.keepS2 hk9 (fun k hk h2 => HNE.out k h2 hk)); have HB9 := Lib.hid (HB8.out.trans hk9.below); have HLX := Lib.hid (show Calls Try.prog 23 #[.pointer (some ⟨gx, 0, none⟩)] w9 fun e w' => e = .returned (.int .i64 (nI : Nat)) ∧ w9 = w' from hLn ▸ glen_any w.heap.size gx ax cx L w9 HGX9.out); have HLY := Lib.hid (show Calls Try.prog 23 #[.pointer (some ⟨gy, 0, none⟩)] w9 fun e w' => e = .returned (.int .i64 (nI : Nat)) ∧ w9 = w' from hLn ▸ glen_any w.heap.size gy ay cy L w9 HGY9.out); clear hG9 hk9)
          | (go_at_call 23; (with_reducible refine HLX.out.mono ?_); rintro e w_ ⟨rfl, rfl⟩)
          | (go_at_call 23; (with_reducible refine HLY.out.mono ?_); rintro e w_ ⟨rfl, rfl⟩)
          | (go_at_call 21; (with_reducible refine (show Calls Try.prog 21 #[.pointer (some ⟨gx, 0, none⟩)] w9 fun e w' => ∃ a' c', e = .returned (.slice a' nI c') ∧ w'.ownsRow w9.heap.size 57 2 (.slice a' nI c') nI (gv L) ∧ nI ≤ c' ∧ c' ≤ maxLen ∧ (a' = none → c' = 0) ∧ Below w9.heap.size w9 w' from hLn ▸ gglyphs_any w.heap.size gx ax cx L w9 HGX9.out (by rw [hLn]; omega)).mono ?_); rintro e w10 ⟨a10, c10, rfl, ho, _, _, _, hb10⟩; have HO10 := Lib.hid ho; have HGY10 := Lib.hid (HGY9.out.below hb10); have HB10 := Lib.hid (HB9.out.trans (hb10.mono HB9.out.size)); clear ho hb10)
          | (go_at_call 21; (with_reducible refine (show Calls Try.prog 21 #[.pointer (some ⟨gy, 0, none⟩)] w10 fun e w' => ∃ a' c', e = .returned (.slice a' nI c') ∧ w'.ownsRow w10.heap.size 57 2 (.slice a' nI c') nI (gv L) ∧ nI ≤ c' ∧ c' ≤ maxLen ∧ (a' = none → c' = 0) ∧ Below w10.heap.size w10 w' from hLn ▸ gglyphs_any w.heap.size gy ay cy L w10 HGY10.out (by rw [hLn]; omega)).mono ?_); rintro e w11 ⟨a11, c11, rfl, ho, _, _, _, hb11⟩; have HO11 := Lib.hid ho; have HO10' := Lib.hid (owns_below HO10.out hb11 (Nat.le_refl _)); have HB11 := Lib.hid (HB10.out.trans (hb11.mono HB10.out.size)); clear ho hb11))
        go_loopw [121] (fun i wq => ∃ j : Nat, j ≤ nI ∧ i = .int .i64 (j : Nat) ∧ Below w11.heap.size w11 wq) (fun i _ => nI - (Go.RowKit.intOf i).toNat)
        case atStart => exact ⟨0, Nat.zero_le _, rfl, Below.refl _ _⟩
        case round =>
          obtain ⟨j, hj, rfl, hb⟩ := hrel
          rename World => wq
          have HBQ := Lib.hid hb
          have HX := Lib.hid (owns_below HO10'.out hb (Nat.le_refl _))
          have HY := Lib.hid (owns_below HO11.out hb (Nat.le_refl _))
          have HLN := Lib.hid hLn
          clear hb
          by_cases hlt : j < nI
          · obtain ⟨gi, p, hgi0, hgi, hgz, hp, hc1, hc2, _, _, _, _⟩ := grow_at HX.out HLN.out hlt
            obtain ⟨gk, q, hgk0, hgk, hkz, hq, hd1, hd2, _, _, _, _⟩ := grow_at HY.out HLN.out hlt
            rw [hp] at hq
            injection hq with hq
            subst hq hgi0 hgk0
            obtain ⟨p1, p2⟩ := p
            simp only at hc1 hc2 hd1 hd2
            clear hp
            go_wp2_with fail
            refine wp_region_tree (.step 0 (.step 1 (.step 2 (.step 3 (.step 4 (.step 5 (.step 6 (.step 7 (.step 8 .nil))))))))) (by kernel_rfl) (by kernel_rfl) (by kernel_rfl) (by kernel_rfl) (by intro _ _ d_ _ _ h_; cases d_ <;> first | exact h_ | (dsimp +zetaDelta only at h_ ⊢; exact h_)) (fun w' => ∃ p : Wld wq [], w' = p.val) (wld_start _ _) ?_
            have hG_ := @wldC wq
            (refine tree_quiet (by simp only [List.getElem?_toArray, List.getElem?_cons_succ, List.getElem?_cons_zero]; rfl) (by rfl) (by rfl) (fun K_ hK_ => ?_); go_big_quiet_op; refine hK_ _ ?_; clear hK_ K_)
            (refine tree_quiet (by simp only [List.getElem?_toArray, List.getElem?_cons_succ, List.getElem?_cons_zero]; rfl) (by rfl) (by rfl) (fun K_ hK_ => ?_); go_big_quiet_op; refine hK_ _ ?_; clear hK_ K_)
            (refine tree_quiet (by simp only [List.getElem?_toArray, List.getElem?_cons_succ, List.getElem?_cons_zero]; rfl) (by rfl) (by rfl) (fun K_ hK_ => ?_); go_big_quiet_op; refine hK_ _ ?_; clear hK_ K_)
            (refine tree_quiet (by simp only [List.getElem?_toArray, List.getElem?_cons_succ, List.getElem?_cons_zero]; rfl) (by rfl) (by rfl) (fun K_ hK_ => ?_); go_big_quiet_op; refine hK_ _ ?_; clear hK_ K_)
            (refine tree_quiet (by simp only [List.getElem?_toArray, List.getElem?_cons_succ, List.getElem?_cons_zero]; rfl) (by rfl) (by rfl) (fun K_ hK_ => ?_); go_big_quiet_op; refine hK_ _ ?_; clear hK_ K_)
            (refine tree_quiet (by simp only [List.getElem?_toArray, List.getElem?_cons_succ, List.getElem?_cons_zero]; rfl) (by rfl) (by rfl) (fun K_ hK_ => ?_); go_big_quiet_op; refine hK_ _ ?_; clear hK_ K_)
            (refine tree_quiet (by simp only [List.getElem?_toArray, List.getElem?_cons_succ, List.getElem?_cons_zero]; rfl) (by rfl) (by rfl) (fun K_ hK_ => ?_); go_big_quiet_op; refine hK_ _ ?_; clear hK_ K_)
            (refine tree_quiet (by simp only [List.getElem?_toArray, List.getElem?_cons_succ, List.getElem?_cons_zero]; rfl) (by rfl) (by rfl) (fun K_ hK_ => ?_); go_big_quiet_op; refine hK_ _ ?_; clear hK_ K_)
            (refine tree_quiet (by simp only [List.getElem?_toArray, List.getElem?_cons_succ, List.getElem?_cons_zero]; rfl) (by rfl) (by rfl) (fun K_ hK_ => ?_); go_big_quiet_op; refine hK_ _ ?_; clear hK_ K_)
            refine tree_nil ?_
            clear hG_
            go_wp2_with fail
            go_roundw
            case rel => exact ⟨j + 1, hlt, by go_num, HBQ.out.drew⟩
            case measure => simp only [Go.RowKit.intOf]; omega
          · obtain rfl : nI = j := by omega
            have HE := Lib.hid (HB11.out.trans (HBQ.out.mono HB11.out.size))
            go_wp2_with fail
            go_ret
            exact ⟨rfl, HE.out⟩

open Go.ChangeShapes Go.WideShapes Go.ChangeAt Go.RowKit
open Go.ChangeMaps (open_string shut_string)

set_option maxRecDepth 100000 in
theorem wholeSwaps_walks (H : Type) (enc : TypeId × Value → H) : Walks H enc 11 [62, 62, 30] := by
  intro W base args ds p hval hA _
  obtain ⟨v0, vs0, d0, ds0, p0, q0, hargs, rfl, rfl, h0, r0⟩ := trodAll_cons hA
  obtain ⟨v1, vs1, d1, ds1, p1, q1, rfl, rfl, rfl, h1, r1⟩ := trodAll_cons r0
  obtain ⟨v2, vs2, d2, ds2, p2, q2, rfl, rfl, rfl, h2, r2⟩ := trodAll_cons r1
  obtain ⟨rfl, rfl, rfl⟩ := trodAll_nil r2
  obtain rfl : args = #[v0, v1, v2] := by cases args; simp_all
  obtain ⟨a0, n0, c0, zs, rfl, hul, _, _, _, hU, hw0⟩ := open_nums Try.underlying62 Try.underlying63 (hval 0 62 v0 rfl rfl) h0
  obtain ⟨us, hu1, hu2, hu3⟩ := u16s_of zs hw0
  obtain ⟨a1, n1, c1, ys, rfl, hvl, _, _, _, hV, hw1⟩ := open_nums Try.underlying62 Try.underlying63 (hval 1 62 v1 rfl rfl) h1
  obtain ⟨vs, hv1, hv2, hv3⟩ := u16s_of ys hw1
  obtain ⟨a, n, c, ids, rfl, hl, _, _, _, hi, hz⟩ := open_ids (hval 2 30 v2 rfl rfl) h2
  rw [hu2] at hU
  rw [hv2] at hV
  exact wholeSwaps_walk a0 n0 c0 us a1 n1 c1 vs a n c ids W hU (by rw [hu1, hul]) hu3 hV (by rw [hv1, hvl]) hv3 hi hl hz

set_option maxRecDepth 100000 in
theorem wholeSwaps_lifted (os : Os) (started : os.Started) (H : Type) (enc : TypeId × Value → H) :
    ReturnsInHanded {} Try.checked os 11 .any (Rows.wholeSwapsSpec.pre6 enc Try.prog Try.f11 Rows.wholeSwapsRow.domain false) (Rows.wholeSwapsSpec.post enc Try.prog Try.f11 false true false false) :=
  lift_law (s := Rows.wholeSwapsSpec) (fn := Try.f11) started (by kernel_rfl) Try.func11
    (ChangeSpec.witness6 (enc := enc) (C := Try.checked) false ⟨#[], #[.slice none 0 0, .slice none 0 0, .slice none 0 0], []⟩ 8 (by kernel_rfl) (by kernel_rfl) (by kernel_rfl) (by kernel_rfl))
    rfl rfl (fun ds h => by match ds, h with | [d0, d1, d2], _ => rfl) (by intro t ht; simp [Try.params11] at ht; first | (subst ht; exact ⟨by kernel_rfl, of_decide_eq_true (by kernel_rfl)⟩) | (obtain rfl | rfl := ht <;> exact ⟨by kernel_rfl, of_decide_eq_true (by kernel_rfl)⟩) | (obtain rfl | rfl | rfl := ht <;> exact ⟨by kernel_rfl, of_decide_eq_true (by kernel_rfl)⟩) | (obtain rfl | rfl | rfl | rfl := ht <;> exact ⟨by kernel_rfl, of_decide_eq_true (by kernel_rfl)⟩))
    (by rw [Try.params11]; exact wholeSwaps_walks H enc)
theorem wholeSwaps_over : Rows.wholeSwapsRow.holds Try.pinned (OpenSpec.ofChange Rows.wholeSwapsSpec) :=
  OpenClaim.holds_of_wide 11 Try.f11 rfl rfl rfl rfl rfl rfl rfl ⟨rfl, rfl, rfl, rfl, rfl⟩ rfl rfl rfl rfl rfl (by kernel_rfl) Try.func11 (by kernel_rfl)
    (of_decide_eq_true (by kernel_rfl)) (by unfold Func.isWrapper; first | (rw [if_pos (by decide +kernel)]; kernel_rfl) | (rw [if_neg (by decide +kernel)]; exact ⟨rfl, rfl⟩))
    (fun os started H enc _ => wholeSwaps_lifted os started H enc)
theorem wholeSwaps_proved : Rows.WholeSwapsSaid := wholeSwaps_over
#print axioms wholeSwaps_proved
end Go.Proofs.Ytcegoenlajkgfaa
