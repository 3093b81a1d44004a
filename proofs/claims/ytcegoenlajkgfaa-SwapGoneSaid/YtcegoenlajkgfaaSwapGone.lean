
/- The walk of SwapGone. SwapGone returns true for every bytes and every line, and changes nothing: a deleted glyph stays deleted, and what has no number stays what it is. No condition beside the row's own. -/
import Derived.Test.YtcegoenlajkgfaaJ18
import Derived.Test.YtcegoenlajkgfaaJ17
namespace Go.Proofs.Ytcegoenlajkgfaa
open Go.RowKit Go.Lib

set_option maxRecDepth 100000 in
set_option maxHeartbeats 6400000 in
theorem swapGone_walk (a : Option Addr) (n c : Nat) (bs : List UInt8) (al : Option Addr) (nl cl : Nat) (l : List (Int × Int)) (w : World) (h : Has w a (bytesV bs)) (hl : bs.length = n) (hn : n ≤ c) (hc : c ≤ maxLen)
    (hh : Has w al (gv l)) (hll : l.length = nl) (hids : ∀ p ∈ l, -9223372036854775808 ≤ p.1 ∧ p.1 ≤ 9223372036854775807) :
    Calls Try.prog 9 #[.slice a n c, .slice al nl cl] w fun e w' => e = .returned (.bool true) ∧ Below w.heap.size w w' := by
  have hAC := allocC
  have hAF := allocF
  have HSP := Lib.hid (fun W => speaks16_any W)
  have HBG := Lib.hid (fun W => big16_any a n c al nl cl W)
  have HH := Lib.hid h
  have HL := Lib.hid hl
  have HHL := Lib.hid hh
  have HLL := Lib.hid hll
  have HID := Lib.hid hids
  by_cases hbig : 600 < n ∨ 60 < nl
  · have hb : (decide (600 < n) || decide (60 < nl)) = true := by simpa using hbig
    rw [hb] at HBG
    clear h hl hh hll hids hbig hb
    go_enter Try.func9, Try.ntmps9
    go_wp2_with (first | (go_at_call 28; (with_reducible refine (HSP.out _).mono ?_); rintro e w1 ⟨rfl, hb1⟩; have h1c := bc hb1; have h1f := bf hb1; have h1z := hb1.size; try simp only [World.size_alloc, World.size_drew] at h1z) | (go_at_call 29; (with_reducible refine (HBG.out _).mono ?_); rintro e w2 ⟨rfl, hb2⟩; have h2c := bc hb2; have h2f := bf hb2; have h2z := hb2.size; try simp only [World.size_alloc, World.size_drew] at h2z))
    go_ret
    exact ⟨rfl, blw⟩
  have hb : (decide (600 < n) || decide (60 < nl)) = false := by simp; omega
  rw [hb] at HBG
  have hn6 : n ≤ 600 := by omega
  have hnl6 : nl ≤ 60 := by omega
  clear h hl hh hll hids hbig hb
  by_cases hok : ∃ rs, LkOk bs 40 2 rs
  case neg =>
    have hno : ∀ rs, ¬ LkOk bs 40 2 rs := fun rs ho => hok ⟨rs, ho⟩
    have HRN := Lib.hid (fun W (hW : Below w.heap.size w W) => swread_none a n c bs 40 40 rfl W (HH.out.below hW) HL.out hn hc (by decide) (by decide) hno)
    have HRF := Lib.hid (fun W (hW : Below w.heap.size w W) => reflk_no a n c bs 40 40 rfl W (HH.out.below hW) HL.out hn hc (by omega) (by decide) (by decide) hno)
    clear hok hno
    go_enter Try.func9, Try.ntmps9
    go_wp2_with (first | (go_at_call 28; (with_reducible refine (HSP.out _).mono ?_); rintro e w1 ⟨rfl, hb1⟩; have h1c := bc hb1; have h1f := bf hb1; have h1z := hb1.size; try simp only [World.size_alloc, World.size_drew] at h1z) | (go_at_call 29; (with_reducible refine (HBG.out _).mono ?_); rintro e w2 ⟨rfl, hb2⟩; have h2c := bc hb2; have h2f := bf hb2; have h2z := hb2.size; try simp only [World.size_alloc, World.size_drew] at h2z) | (go_at_call 30; (with_reducible refine (HRN.out _ (by exact blw)).mono ?_); rintro e w3 ⟨rfl, hb3⟩; have h3c := bc hb3; have h3f := bf hb3; have h3z := hb3.size; try simp only [World.size_alloc, World.size_drew] at h3z) | (go_at_call 31; (with_reducible refine (HRF.out _ (by exact blw)).mono ?_); rintro e w4 ⟨rfl, hb4⟩; have h4c := bc hb4; have h4f := bf hb4; have h4z := hb4.size; try simp only [World.size_alloc, World.size_drew] at h4z))
    go_ret
    exact ⟨rfl, blw⟩
  obtain ⟨rs, hok⟩ := hok
  have HOK := Lib.hid hok
  have HRS := Lib.hid (fun W (hW : Below w.heap.size w W) => swread_some a n c bs 40 40 rfl rs W (HH.out.below hW) HL.out hn hc (by decide) (by decide) hok)
  have hrf := fun W (hW : Below w.heap.size w W) => reflk_yes a n c bs 40 40 rfl rs W (HH.out.below hW) HL.out hn hc (by omega) (by decide) (by decide) hok
  obtain ⟨L, hL⟩ : ∃ L, L = rs.length := ⟨_, rfl⟩
  rw [← hL] at hrf
  have HLR := Lib.hid hL
  have HRF := Lib.hid hrf
  have hsl : (swapL (lkR bs rs) l).length = nl := by rw [swapL_length, HLL.out]
  have HSL := Lib.hid hsl
  have HGLY := Lib.hid (fun W gx6 a6 c6 (hG : GIs w.heap.size gx6 a6 c6 (swapL (lkR bs rs) l) W) => hsl ▸ gglyphs_any w.heap.size gx6 a6 c6 _ W hG (by omega))
  clear hL hrf hok hsl
  go_enter Try.func9, Try.ntmps9
  go_wp2_with (first
    | (go_at_call 28; (with_reducible refine (HSP.out _).mono ?_); rintro e w1 ⟨rfl, hb1⟩; have h1c := bc hb1; have h1f := bf hb1; have h1z := hb1.size; try simp only [World.size_alloc, World.size_drew] at h1z)
    | (go_at_call 29; (with_reducible refine (HBG.out _).mono ?_); rintro e w2 ⟨rfl, hb2⟩; have h2c := bc hb2; have h2f := bf hb2; have h2z := hb2.size; try simp only [World.size_alloc, World.size_drew] at h2z)
    | (go_at_call 30; (with_reducible refine (HRS.out _ (by exact blw)).mono ?_); rintro e w3 ⟨gx, rfl, hT, hb3⟩; have HT := Lib.hid hT; have h3z := hb3.size; have HB3 := Lib.hid (show Below w.heap.size w w3 from by exact blw); clear hT)
    | (go_at_call 31; (with_reducible refine (HRF.out w3 HB3.out).mono ?_); rintro e w4 ⟨a4, c4, rfl, hr4, hb4⟩; have HR4 := Lib.hid hr4; have HT4 := Lib.hid (HT.out.below hb4); have HB4 := Lib.hid (HB3.out.trans (hb4.mono HB3.out.size)); clear hr4 hb4)
    | (go_at_call 33
       obtain ⟨V, hV⟩ : ∃ V, V = w4.alloc (Obj.cells #[.slice a n c, .slice a4 L c4] 40) := ⟨_, rfl⟩
       have hbV : Below w4.heap.size w4 V := by rw [hV]; exact balloc (brefl w4) _
       have x9 : V.heap[w4.heap.size]? = some (.cells #[.slice a n c, .slice a4 L c4] 40 (0, 0)) := by rw [hV]; exact (heap_push _ _ _).trans (if_pos rfl)
       rw [← hV]
       have HBV := Lib.hid (HB4.out.trans (hbV.mono HB4.out.size))
       have HTV := Lib.hid (HT4.out.below hbV)
       have HRV := Lib.hid (HR4.out.below hbV)
       (with_reducible refine (gof_any al nl cl l V (HHL.out.below HBV.out) HLL.out (by omega)).mono ?_)
       rintro e w6 ⟨gx6, a6, c6, rfl, hG6, hg6, hb6⟩
       have HK6 := Lib.hid (fun k hk => (hG6.rowIn k hk).1)
       have HG6 := Lib.hid (hG6.mono HBV.out.size)
       have HR6 := Lib.hid (HRV.out.below hb6)
       have HRV0 := Lib.hid HRV.out
       have X6 := Lib.hid ((hb6.block _ (Array.getElem?_eq_some_iff.1 x9).1).trans x9)
       have HB6 := Lib.hid (HBV.out.trans (hb6.mono HBV.out.size))
       have HS6 := Lib.hid hb6.size
       have HRN6 := Lib.hid (swrun_any _ gx bs rs w.heap.size gx6 a6 c6 l w6 (HTV.out.below hb6) (HOK.out.fit (by decide) (.inl rfl)) HG6.out HB6.out.size HID.out (by rw [HLL.out]; omega))
       clear hG6 hb6 hV hbV x9)
    | (go_at_call 34
       (with_reducible refine HRN6.out.mono ?_)
       rintro e w7 ⟨rfl, hG7, hk7⟩
       have HG7 := Lib.hid hG7
       have HR7 := Lib.hid (HRV0.out.keptLt HR6.out hk7.kepO (fun k t hk ho => by have := HK6.out k ho.2; omega))
       have X7 := Lib.hid ((hk7.kept _ _ _ _ X6.out (ownS_no (by decide) _)).trans X6.out)
       have HB7 := Lib.hid (HB6.out.trans hk7.below)
       clear hG7 hk7)
    | (go_at_call 21; (with_reducible refine (HGLY.out w7 gx6 a6 c6 HG7.out).mono ?_); rintro e w8 ⟨a8, c8, rfl, ho, _, _, _, hb8⟩; have HH8 := Lib.hid (has_of_owns ho); have HR8 := Lib.hid (HR7.out.below hb8); have X8 := Lib.hid ((hb8.block _ (Array.getElem?_eq_some_iff.1 X7.out).1).trans X7.out); have HB8 := Lib.hid (HB7.out.trans (hb8.mono HB7.out.size)); clear ho hb8))
  have hz8 := HB8.out.size
  go_loopw [56] (fun i wr => ∃ j : Nat, j ≤ nl ∧ i = .int .i64 (j : Nat) ∧ Below w8.heap.size w8 wr) (fun i _ => nl - (RowKit.intOf i).toNat)
  case atStart => exact ⟨0, Nat.zero_le _, rfl, brefl _⟩
  case round =>
    obtain ⟨j, hj, rfl, hb⟩ := hrel
    rename World => wr
    have HBR := Lib.hid hb
    have hzr := hb.size
    have hwr := HB8.out.trans (hb.mono hz8)
    have HWR := Lib.hid hwr
    have x9 := (hb.block _ (Array.getElem?_eq_some_iff.1 X8.out).1).trans X8.out
    clear hb
    by_cases hlt : j < nl
    · obtain ⟨gi, oi, p, rfl, hgi, hp, hc1, hc2⟩ := gv_at (HHL.out.below hwr) (k := j) (by rw [HLL.out]; exact hlt)
      obtain ⟨g8, o8, p', rfl, hg8, hp', e1, e2⟩ := gv_at (HH8.out.below HBR.out) (k := j) (by rw [HSL.out]; exact hlt)
      have hpp : p' = swap1 (lkR bs rs) p := by
        unfold swapL at hp'
        rw [List.getElem?_map, hp] at hp'
        injection hp' with hp'
        exact hp'.symm
      subst hpp
      have hidp := HID.out p (List.mem_of_getElem? hp)
      have hlkg := fun W (hW : Below wr.heap.size wr W) => reflkget a n c bs 40 a4 c4 rs p.1 W ((HH.out.below hwr).below hW) HL.out (by omega) ((HR8.out.below HBR.out).below hW) (by decide) HOK.out hidp
      rw [← HLR.out] at hlkg
      obtain ⟨p1, p2⟩ := p
      simp only at hc1 hc2 hidp hlkg
      unfold swap1 at e1 e2
      simp only at e1 e2
      have q9 := fun o => cell_of_heap x9 o
      have l9r := (Array.getElem?_eq_some_iff.1 x9).1
      have d7 : decide (nl ≤ j) = false := by simp; omega
      generalize lkR bs rs p1 = q at *
      obtain ⟨q1, q2⟩ := q
      simp only at hlkg e1 e2
      have HGT := Lib.hid hlkg
      clear hlkg hp hp' x9 hwr hidp
      by_cases h5 : p1 = 65535
      · subst h5
        rw [if_pos rfl] at e1 e2
        simp only at e1 e2
        go_wp2_with (go_at_call 32; (with_reducible refine (HGT.out _ (by exact blw)).mono ?_); rintro e w9 ⟨rfl, hb9⟩; have h9z := hb9.size; simp only [World.size_alloc] at h9z)
        have hb9' : Below wr.heap.size wr w9 := (by exact blw)
        have y12 : w9.heap[wr.heap.size]? = some (.cells #[.int .i64 65535, .int .i64 p2] 57 (0, 0)) := (hb9.block _ (by simp)).trans ((heap_push _ _ _).trans (if_pos rfl))
        have q12 := fun o => cell_of_heap y12 o
        have l12 := (Array.getElem?_eq_some_iff.1 y12).1
        have e1 := (hb9'.cell (p := ⟨g8, o8 + j * 2, none⟩) hg8).trans e1
        have e2 := (hb9'.cell (p := ⟨g8, o8 + j * 2 + 1, none⟩) hg8).trans e2
        have hg8 : g8 < w9.heap.size := by omega
        have HBX := Lib.hid (HBR.out.trans (hb9'.mono hzr))
        clear y12 hb9 hb9' q9 hc1 hc2
        refine wp_region_tree (.step 0 (.step 1 (.step 2 (.step 3 (.step 4 (.step 5 (.step 6 (.step 7 (.step 8 (.step 9 (.step 10 (.step 11 (.step 12 (.step 13 (.step 14 (.step 15 (.step 16 (.step 17 (.step 18 (.step 19 (.step 20 (.step 21 (.step 22 (.step 23 (.step 24 .nil))))))))))))))))))))))))) (by kernel_rfl) (by kernel_rfl) (by kernel_rfl) (by kernel_rfl) (by intro _ _ d_ _ _ h_; cases d_ <;> first | exact h_ | (dsimp +zetaDelta only at h_ ⊢; exact h_)) (fun w' => ∃ p : Wld w9 [], w' = p.val) (wld_start _ _) ?_
        have hG_ := @wldC w9
        (refine tree_quiet (by simp only [List.getElem?_toArray, List.getElem?_cons_succ, List.getElem?_cons_zero]; rfl) (by rfl) (by rfl) (fun K_ hK_ => ?_); go_big_quiet_op; refine hK_ _ ?_; clear hK_ K_)
        (refine tree_quiet (by simp only [List.getElem?_toArray, List.getElem?_cons_succ, List.getElem?_cons_zero]; rfl) (by rfl) (by rfl) (fun K_ hK_ => ?_); go_big_quiet_op; refine hK_ _ ?_; clear hK_ K_)
        (refine tree_quiet (by simp only [List.getElem?_toArray, List.getElem?_cons_succ, List.getElem?_cons_zero]; rfl) (by rfl) (by rfl) (fun K_ hK_ => ?_); go_big_quiet_op; refine hK_ _ ?_; clear hK_ K_)
        (refine tree_quiet (by simp only [List.getElem?_toArray, List.getElem?_cons_succ, List.getElem?_cons_zero]; rfl) (by rfl) (by rfl) (fun K_ hK_ => ?_); go_big_quiet_op; refine hK_ _ ?_; clear hK_ K_)
        refine tree_skip (by simp only [List.getElem?_toArray, List.getElem?_cons_succ, List.getElem?_cons_zero]; rfl) (by rfl) ?_; dsimp only [Act.put]; simp only [List.setIfInBounds_toArray, List.set_cons_succ, List.set_cons_zero]
        refine tree_skip (by simp only [List.getElem?_toArray, List.getElem?_cons_succ, List.getElem?_cons_zero]; rfl) (by rfl) ?_; dsimp only [Act.put]; simp only [List.setIfInBounds_toArray, List.set_cons_succ, List.set_cons_zero]
        (refine tree_quiet (by simp only [List.getElem?_toArray, List.getElem?_cons_succ, List.getElem?_cons_zero]; rfl) (by rfl) (by rfl) (fun K_ hK_ => ?_); go_big_quiet_op; refine hK_ _ ?_; clear hK_ K_)
        (refine tree_quiet (by simp only [List.getElem?_toArray, List.getElem?_cons_succ, List.getElem?_cons_zero]; rfl) (by rfl) (by rfl) (fun K_ hK_ => ?_); go_big_quiet_op; refine hK_ _ ?_; clear hK_ K_)
        (refine tree_quiet (by simp only [List.getElem?_toArray, List.getElem?_cons_succ, List.getElem?_cons_zero]; rfl) (by rfl) (by rfl) (fun K_ hK_ => ?_); go_big_quiet_op; refine hK_ _ ?_; clear hK_ K_)
        (refine tree_quiet (by simp only [List.getElem?_toArray, List.getElem?_cons_succ, List.getElem?_cons_zero]; rfl) (by rfl) (by rfl) (fun K_ hK_ => ?_); go_big_quiet_op; refine hK_ _ ?_; clear hK_ K_)
        (refine tree_quiet (by simp only [List.getElem?_toArray, List.getElem?_cons_succ, List.getElem?_cons_zero]; rfl) (by rfl) (by rfl) (fun K_ hK_ => ?_); go_big_quiet_op; refine hK_ _ ?_; clear hK_ K_)
        (refine tree_quiet (by simp only [List.getElem?_toArray, List.getElem?_cons_succ, List.getElem?_cons_zero]; rfl) (by rfl) (by rfl) (fun K_ hK_ => ?_); go_big_quiet_op; refine hK_ _ ?_; clear hK_ K_)
        (refine tree_quiet (by simp only [List.getElem?_toArray, List.getElem?_cons_succ, List.getElem?_cons_zero]; rfl) (by rfl) (by rfl) (fun K_ hK_ => ?_); go_big_quiet_op; refine hK_ _ ?_; clear hK_ K_)
        (refine tree_quiet (by simp only [List.getElem?_toArray, List.getElem?_cons_succ, List.getElem?_cons_zero]; rfl) (by rfl) (by rfl) (fun K_ hK_ => ?_); go_big_quiet_op; refine hK_ _ ?_; clear hK_ K_)
        (refine tree_quiet (by simp only [List.getElem?_toArray, List.getElem?_cons_succ, List.getElem?_cons_zero]; rfl) (by rfl) (by rfl) (fun K_ hK_ => ?_); go_big_quiet_op; refine hK_ _ ?_; clear hK_ K_)
        (refine tree_quiet (by simp only [List.getElem?_toArray, List.getElem?_cons_succ, List.getElem?_cons_zero]; rfl) (by rfl) (by rfl) (fun K_ hK_ => ?_); go_big_quiet_op; refine hK_ _ ?_; clear hK_ K_)
        (refine tree_quiet (by simp only [List.getElem?_toArray, List.getElem?_cons_succ, List.getElem?_cons_zero]; rfl) (by rfl) (by rfl) (fun K_ hK_ => ?_); go_big_quiet_op; refine hK_ _ ?_; clear hK_ K_)
        (refine tree_quiet (by simp only [List.getElem?_toArray, List.getElem?_cons_succ, List.getElem?_cons_zero]; rfl) (by rfl) (by rfl) (fun K_ hK_ => ?_); go_big_quiet_op; refine hK_ _ ?_; clear hK_ K_)
        (refine tree_quiet (by simp only [List.getElem?_toArray, List.getElem?_cons_succ, List.getElem?_cons_zero]; rfl) (by rfl) (by rfl) (fun K_ hK_ => ?_); go_big_quiet_op; refine hK_ _ ?_; clear hK_ K_)
        (refine tree_quiet (by simp only [List.getElem?_toArray, List.getElem?_cons_succ, List.getElem?_cons_zero]; rfl) (by rfl) (by rfl) (fun K_ hK_ => ?_); go_big_quiet_op; refine hK_ _ ?_; clear hK_ K_)
        (refine tree_quiet (by simp only [List.getElem?_toArray, List.getElem?_cons_succ, List.getElem?_cons_zero]; rfl) (by rfl) (by rfl) (fun K_ hK_ => ?_); go_big_quiet_op; refine hK_ _ ?_; clear hK_ K_)
        (refine tree_quiet (by simp only [List.getElem?_toArray, List.getElem?_cons_succ, List.getElem?_cons_zero]; rfl) (by rfl) (by rfl) (fun K_ hK_ => ?_); go_big_quiet_op; refine hK_ _ ?_; clear hK_ K_)
        (refine tree_quiet (by simp only [List.getElem?_toArray, List.getElem?_cons_succ, List.getElem?_cons_zero]; rfl) (by rfl) (by rfl) (fun K_ hK_ => ?_); go_big_quiet_op; refine hK_ _ ?_; clear hK_ K_)
        (refine tree_quiet (by simp only [List.getElem?_toArray, List.getElem?_cons_succ, List.getElem?_cons_zero]; rfl) (by rfl) (by rfl) (fun K_ hK_ => ?_); go_big_quiet_op; refine hK_ _ ?_; clear hK_ K_)
        (refine tree_quiet (by simp only [List.getElem?_toArray, List.getElem?_cons_succ, List.getElem?_cons_zero]; rfl) (by rfl) (by rfl) (fun K_ hK_ => ?_); go_big_quiet_op; refine hK_ _ ?_; clear hK_ K_)
        refine tree_nil ?_
        clear hG_
        go_wp2_with fail
        refine ⟨⟨j + 1, hlt, by go_num, by first | exact HBX.out | exact bdrew1 HBX.out⟩, ?_⟩
        simp only [RowKit.intOf]; omega
      · rw [if_neg h5] at e1 e2
        have d5 : (p1 == 65535) = false := by simpa using h5
        cases q2 with
        | false =>
          rw [if_neg (by simp)] at e1 e2
          simp only at e1 e2
          clear h5
          go_wp2_with (go_at_call 32; (with_reducible refine (HGT.out _ (by exact blw)).mono ?_); rintro e w9 ⟨rfl, hb9⟩; have h9z := hb9.size; simp only [World.size_alloc] at h9z)
          have hb9' : Below wr.heap.size wr w9 := (by exact blw)
          have y12 : w9.heap[wr.heap.size]? = some (.cells #[.int .i64 p1, .int .i64 p2] 57 (0, 0)) := (hb9.block _ (by simp)).trans ((heap_push _ _ _).trans (if_pos rfl))
          have q12 := fun o => cell_of_heap y12 o
          have l12 := (Array.getElem?_eq_some_iff.1 y12).1
          have e1 := (hb9'.cell (p := ⟨g8, o8 + j * 2, none⟩) hg8).trans e1
          have e2 := (hb9'.cell (p := ⟨g8, o8 + j * 2 + 1, none⟩) hg8).trans e2
          have hg8 : g8 < w9.heap.size := by omega
          have HBX := Lib.hid (HBR.out.trans (hb9'.mono hzr))
          clear y12 hb9 hb9' q9 hc1 hc2
          refine wp_region_tree (.step 0 (.step 1 (.step 2 (.step 3 (.step 4 (.step 5 (.step 6 (.step 7 (.step 8 (.step 9 (.step 10 (.step 11 (.step 12 (.step 13 (.step 14 (.step 15 (.step 16 (.step 17 (.step 18 (.step 19 (.step 20 (.step 21 (.step 22 (.step 23 (.step 24 .nil))))))))))))))))))))))))) (by kernel_rfl) (by kernel_rfl) (by kernel_rfl) (by kernel_rfl) (by intro _ _ d_ _ _ h_; cases d_ <;> first | exact h_ | (dsimp +zetaDelta only at h_ ⊢; exact h_)) (fun w' => ∃ p : Wld w9 [], w' = p.val) (wld_start _ _) ?_
          have hG_ := @wldC w9
          (refine tree_quiet (by simp only [List.getElem?_toArray, List.getElem?_cons_succ, List.getElem?_cons_zero]; rfl) (by rfl) (by rfl) (fun K_ hK_ => ?_); go_big_quiet_op; refine hK_ _ ?_; clear hK_ K_)
          (refine tree_quiet (by simp only [List.getElem?_toArray, List.getElem?_cons_succ, List.getElem?_cons_zero]; rfl) (by rfl) (by rfl) (fun K_ hK_ => ?_); go_big_quiet_op; refine hK_ _ ?_; clear hK_ K_)
          (refine tree_quiet (by simp only [List.getElem?_toArray, List.getElem?_cons_succ, List.getElem?_cons_zero]; rfl) (by rfl) (by rfl) (fun K_ hK_ => ?_); go_big_quiet_op; refine hK_ _ ?_; clear hK_ K_)
          (refine tree_quiet (by simp only [List.getElem?_toArray, List.getElem?_cons_succ, List.getElem?_cons_zero]; rfl) (by rfl) (by rfl) (fun K_ hK_ => ?_); go_big_quiet_op; refine hK_ _ ?_; clear hK_ K_)
          (refine tree_quiet (by simp only [List.getElem?_toArray, List.getElem?_cons_succ, List.getElem?_cons_zero]; rfl) (by rfl) (by rfl) (fun K_ hK_ => ?_); go_big_quiet_op; refine hK_ _ ?_; clear hK_ K_)
          (refine tree_quiet (by simp only [List.getElem?_toArray, List.getElem?_cons_succ, List.getElem?_cons_zero]; rfl) (by rfl) (by rfl) (fun K_ hK_ => ?_); go_big_quiet_op; refine hK_ _ ?_; clear hK_ K_)
          (refine tree_quiet (by simp only [List.getElem?_toArray, List.getElem?_cons_succ, List.getElem?_cons_zero]; rfl) (by rfl) (by rfl) (fun K_ hK_ => ?_); go_big_quiet_op; refine hK_ _ ?_; clear hK_ K_)
          (refine tree_quiet (by simp only [List.getElem?_toArray, List.getElem?_cons_succ, List.getElem?_cons_zero]; rfl) (by rfl) (by rfl) (fun K_ hK_ => ?_); go_big_quiet_op; refine hK_ _ ?_; clear hK_ K_)
          (refine tree_quiet (by simp only [List.getElem?_toArray, List.getElem?_cons_succ, List.getElem?_cons_zero]; rfl) (by rfl) (by rfl) (fun K_ hK_ => ?_); go_big_quiet_op; refine hK_ _ ?_; clear hK_ K_)
          (refine tree_quiet (by simp only [List.getElem?_toArray, List.getElem?_cons_succ, List.getElem?_cons_zero]; rfl) (by rfl) (by rfl) (fun K_ hK_ => ?_); go_big_quiet_op; refine hK_ _ ?_; clear hK_ K_)
          (refine tree_quiet (by simp only [List.getElem?_toArray, List.getElem?_cons_succ, List.getElem?_cons_zero]; rfl) (by rfl) (by rfl) (fun K_ hK_ => ?_); go_big_quiet_op; refine hK_ _ ?_; clear hK_ K_)
          (refine tree_quiet (by simp only [List.getElem?_toArray, List.getElem?_cons_succ, List.getElem?_cons_zero]; rfl) (by rfl) (by rfl) (fun K_ hK_ => ?_); go_big_quiet_op; refine hK_ _ ?_; clear hK_ K_)
          (refine tree_quiet (by simp only [List.getElem?_toArray, List.getElem?_cons_succ, List.getElem?_cons_zero]; rfl) (by rfl) (by rfl) (fun K_ hK_ => ?_); go_big_quiet_op; refine hK_ _ ?_; clear hK_ K_)
          (refine tree_quiet (by simp only [List.getElem?_toArray, List.getElem?_cons_succ, List.getElem?_cons_zero]; rfl) (by rfl) (by rfl) (fun K_ hK_ => ?_); go_big_quiet_op; refine hK_ _ ?_; clear hK_ K_)
          (refine tree_quiet (by simp only [List.getElem?_toArray, List.getElem?_cons_succ, List.getElem?_cons_zero]; rfl) (by rfl) (by rfl) (fun K_ hK_ => ?_); go_big_quiet_op; refine hK_ _ ?_; clear hK_ K_)
          (refine tree_quiet (by simp only [List.getElem?_toArray, List.getElem?_cons_succ, List.getElem?_cons_zero]; rfl) (by rfl) (by rfl) (fun K_ hK_ => ?_); go_big_quiet_op; refine hK_ _ ?_; clear hK_ K_)
          (refine tree_quiet (by simp only [List.getElem?_toArray, List.getElem?_cons_succ, List.getElem?_cons_zero]; rfl) (by rfl) (by rfl) (fun K_ hK_ => ?_); go_big_quiet_op; refine hK_ _ ?_; clear hK_ K_)
          (refine tree_quiet (by simp only [List.getElem?_toArray, List.getElem?_cons_succ, List.getElem?_cons_zero]; rfl) (by rfl) (by rfl) (fun K_ hK_ => ?_); go_big_quiet_op; refine hK_ _ ?_; clear hK_ K_)
          (refine tree_quiet (by simp only [List.getElem?_toArray, List.getElem?_cons_succ, List.getElem?_cons_zero]; rfl) (by rfl) (by rfl) (fun K_ hK_ => ?_); go_big_quiet_op; refine hK_ _ ?_; clear hK_ K_)
          (refine tree_quiet (by simp only [List.getElem?_toArray, List.getElem?_cons_succ, List.getElem?_cons_zero]; rfl) (by rfl) (by rfl) (fun K_ hK_ => ?_); go_big_quiet_op; refine hK_ _ ?_; clear hK_ K_)
          (refine tree_quiet (by simp only [List.getElem?_toArray, List.getElem?_cons_succ, List.getElem?_cons_zero]; rfl) (by rfl) (by rfl) (fun K_ hK_ => ?_); go_big_quiet_op; refine hK_ _ ?_; clear hK_ K_)
          (refine tree_quiet (by simp only [List.getElem?_toArray, List.getElem?_cons_succ, List.getElem?_cons_zero]; rfl) (by rfl) (by rfl) (fun K_ hK_ => ?_); go_big_quiet_op; refine hK_ _ ?_; clear hK_ K_)
          (refine tree_quiet (by simp only [List.getElem?_toArray, List.getElem?_cons_succ, List.getElem?_cons_zero]; rfl) (by rfl) (by rfl) (fun K_ hK_ => ?_); go_big_quiet_op; refine hK_ _ ?_; clear hK_ K_)
          (refine tree_quiet (by simp only [List.getElem?_toArray, List.getElem?_cons_succ, List.getElem?_cons_zero]; rfl) (by rfl) (by rfl) (fun K_ hK_ => ?_); go_big_quiet_op; refine hK_ _ ?_; clear hK_ K_)
          (refine tree_quiet (by simp only [List.getElem?_toArray, List.getElem?_cons_succ, List.getElem?_cons_zero]; rfl) (by rfl) (by rfl) (fun K_ hK_ => ?_); go_big_quiet_op; refine hK_ _ ?_; clear hK_ K_)
          refine tree_nil ?_
          clear hG_
          go_wp2_with fail
          refine ⟨⟨j + 1, hlt, by go_num, by first | exact HBX.out | exact bdrew1 HBX.out⟩, ?_⟩
          simp only [RowKit.intOf]; omega
        | true =>
          rw [if_pos rfl] at e1 e2
          simp only at e1 e2
          clear h5
          go_wp2_with (go_at_call 32; (with_reducible refine (HGT.out _ (by exact blw)).mono ?_); rintro e w9 ⟨rfl, hb9⟩; have h9z := hb9.size; simp only [World.size_alloc] at h9z)
          have hb9' : Below wr.heap.size wr w9 := (by exact blw)
          have y12 : w9.heap[wr.heap.size]? = some (.cells #[.int .i64 p1, .int .i64 p2] 57 (0, 0)) := (hb9.block _ (by simp)).trans ((heap_push _ _ _).trans (if_pos rfl))
          have q12 := fun o => cell_of_heap y12 o
          have l12 := (Array.getElem?_eq_some_iff.1 y12).1
          have e1 := (hb9'.cell (p := ⟨g8, o8 + j * 2, none⟩) hg8).trans e1
          have e2 := (hb9'.cell (p := ⟨g8, o8 + j * 2 + 1, none⟩) hg8).trans e2
          have hg8 : g8 < w9.heap.size := by omega
          have HBX := Lib.hid (HBR.out.trans (hb9'.mono hzr))
          clear y12 hb9 hb9' q9 hc1 hc2
          refine wp_region_tree (.step 0 (.step 1 (.step 2 (.step 3 (.step 4 (.step 5 (.step 6 (.step 7 (.step 8 (.step 9 (.step 10 (.step 11 (.step 12 (.step 13 (.step 14 (.step 15 (.step 16 (.step 17 (.step 18 (.step 19 (.step 20 (.step 21 (.step 22 (.step 23 (.step 24 .nil))))))))))))))))))))))))) (by kernel_rfl) (by kernel_rfl) (by kernel_rfl) (by kernel_rfl) (by intro _ _ d_ _ _ h_; cases d_ <;> first | exact h_ | (dsimp +zetaDelta only at h_ ⊢; exact h_)) (fun w' => ∃ p : Wld w9 [], w' = p.val) (wld_start _ _) ?_
          have hG_ := @wldC w9
          (refine tree_quiet (by simp only [List.getElem?_toArray, List.getElem?_cons_succ, List.getElem?_cons_zero]; rfl) (by rfl) (by rfl) (fun K_ hK_ => ?_); go_big_quiet_op; refine hK_ _ ?_; clear hK_ K_)
          (refine tree_quiet (by simp only [List.getElem?_toArray, List.getElem?_cons_succ, List.getElem?_cons_zero]; rfl) (by rfl) (by rfl) (fun K_ hK_ => ?_); go_big_quiet_op; refine hK_ _ ?_; clear hK_ K_)
          (refine tree_quiet (by simp only [List.getElem?_toArray, List.getElem?_cons_succ, List.getElem?_cons_zero]; rfl) (by rfl) (by rfl) (fun K_ hK_ => ?_); go_big_quiet_op; refine hK_ _ ?_; clear hK_ K_)
          (refine tree_quiet (by simp only [List.getElem?_toArray, List.getElem?_cons_succ, List.getElem?_cons_zero]; rfl) (by rfl) (by rfl) (fun K_ hK_ => ?_); go_big_quiet_op; refine hK_ _ ?_; clear hK_ K_)
          (refine tree_quiet (by simp only [List.getElem?_toArray, List.getElem?_cons_succ, List.getElem?_cons_zero]; rfl) (by rfl) (by rfl) (fun K_ hK_ => ?_); go_big_quiet_op; refine hK_ _ ?_; clear hK_ K_)
          (refine tree_quiet (by simp only [List.getElem?_toArray, List.getElem?_cons_succ, List.getElem?_cons_zero]; rfl) (by rfl) (by rfl) (fun K_ hK_ => ?_); go_big_quiet_op; refine hK_ _ ?_; clear hK_ K_)
          (refine tree_quiet (by simp only [List.getElem?_toArray, List.getElem?_cons_succ, List.getElem?_cons_zero]; rfl) (by rfl) (by rfl) (fun K_ hK_ => ?_); go_big_quiet_op; refine hK_ _ ?_; clear hK_ K_)
          (refine tree_quiet (by simp only [List.getElem?_toArray, List.getElem?_cons_succ, List.getElem?_cons_zero]; rfl) (by rfl) (by rfl) (fun K_ hK_ => ?_); go_big_quiet_op; refine hK_ _ ?_; clear hK_ K_)
          refine tree_skip (by simp only [List.getElem?_toArray, List.getElem?_cons_succ, List.getElem?_cons_zero]; rfl) (by rfl) ?_; dsimp only [Act.put]; simp only [List.setIfInBounds_toArray, List.set_cons_succ, List.set_cons_zero]
          refine tree_skip (by simp only [List.getElem?_toArray, List.getElem?_cons_succ, List.getElem?_cons_zero]; rfl) (by rfl) ?_; dsimp only [Act.put]; simp only [List.setIfInBounds_toArray, List.set_cons_succ, List.set_cons_zero]
          refine tree_skip (by simp only [List.getElem?_toArray, List.getElem?_cons_succ, List.getElem?_cons_zero]; rfl) (by rfl) ?_; dsimp only [Act.put]; simp only [List.setIfInBounds_toArray, List.set_cons_succ, List.set_cons_zero]
          refine tree_skip (by simp only [List.getElem?_toArray, List.getElem?_cons_succ, List.getElem?_cons_zero]; rfl) (by rfl) ?_; dsimp only [Act.put]; simp only [List.setIfInBounds_toArray, List.set_cons_succ, List.set_cons_zero]
          refine tree_skip (by simp only [List.getElem?_toArray, List.getElem?_cons_succ, List.getElem?_cons_zero]; rfl) (by rfl) ?_; dsimp only [Act.put]; simp only [List.setIfInBounds_toArray, List.set_cons_succ, List.set_cons_zero]
          refine tree_skip (by simp only [List.getElem?_toArray, List.getElem?_cons_succ, List.getElem?_cons_zero]; rfl) (by rfl) ?_; dsimp only [Act.put]; simp only [List.setIfInBounds_toArray, List.set_cons_succ, List.set_cons_zero]
          (refine tree_quiet (by simp only [List.getElem?_toArray, List.getElem?_cons_succ, List.getElem?_cons_zero]; rfl) (by rfl) (by rfl) (fun K_ hK_ => ?_); go_big_quiet_op; refine hK_ _ ?_; clear hK_ K_)
          (refine tree_quiet (by simp only [List.getElem?_toArray, List.getElem?_cons_succ, List.getElem?_cons_zero]; rfl) (by rfl) (by rfl) (fun K_ hK_ => ?_); go_big_quiet_op; refine hK_ _ ?_; clear hK_ K_)
          (refine tree_quiet (by simp only [List.getElem?_toArray, List.getElem?_cons_succ, List.getElem?_cons_zero]; rfl) (by rfl) (by rfl) (fun K_ hK_ => ?_); go_big_quiet_op; refine hK_ _ ?_; clear hK_ K_)
          (refine tree_quiet (by simp only [List.getElem?_toArray, List.getElem?_cons_succ, List.getElem?_cons_zero]; rfl) (by rfl) (by rfl) (fun K_ hK_ => ?_); go_big_quiet_op; refine hK_ _ ?_; clear hK_ K_)
          (refine tree_quiet (by simp only [List.getElem?_toArray, List.getElem?_cons_succ, List.getElem?_cons_zero]; rfl) (by rfl) (by rfl) (fun K_ hK_ => ?_); go_big_quiet_op; refine hK_ _ ?_; clear hK_ K_)
          (refine tree_quiet (by simp only [List.getElem?_toArray, List.getElem?_cons_succ, List.getElem?_cons_zero]; rfl) (by rfl) (by rfl) (fun K_ hK_ => ?_); go_big_quiet_op; refine hK_ _ ?_; clear hK_ K_)
          (refine tree_quiet (by simp only [List.getElem?_toArray, List.getElem?_cons_succ, List.getElem?_cons_zero]; rfl) (by rfl) (by rfl) (fun K_ hK_ => ?_); go_big_quiet_op; refine hK_ _ ?_; clear hK_ K_)
          (refine tree_quiet (by simp only [List.getElem?_toArray, List.getElem?_cons_succ, List.getElem?_cons_zero]; rfl) (by rfl) (by rfl) (fun K_ hK_ => ?_); go_big_quiet_op; refine hK_ _ ?_; clear hK_ K_)
          (refine tree_quiet (by simp only [List.getElem?_toArray, List.getElem?_cons_succ, List.getElem?_cons_zero]; rfl) (by rfl) (by rfl) (fun K_ hK_ => ?_); go_big_quiet_op; refine hK_ _ ?_; clear hK_ K_)
          (refine tree_quiet (by simp only [List.getElem?_toArray, List.getElem?_cons_succ, List.getElem?_cons_zero]; rfl) (by rfl) (by rfl) (fun K_ hK_ => ?_); go_big_quiet_op; refine hK_ _ ?_; clear hK_ K_)
          (refine tree_quiet (by simp only [List.getElem?_toArray, List.getElem?_cons_succ, List.getElem?_cons_zero]; rfl) (by rfl) (by rfl) (fun K_ hK_ => ?_); go_big_quiet_op; refine hK_ _ ?_; clear hK_ K_)
          refine tree_nil ?_
          clear hG_
          go_wp2_with fail
          refine ⟨⟨j + 1, hlt, by go_num, by first | exact HBX.out | exact bdrew1 HBX.out⟩, ?_⟩
          simp only [RowKit.intOf]; omega
    · obtain rfl : nl = j := by omega
      go_wp2_with fail
      go_ret
      exact ⟨rfl, HWR.out⟩

open Go.ChangeShapes Go.WideShapes Go.ChangeAt Go.RowKit
open Go.ChangeMaps (open_string shut_string)

set_option maxRecDepth 100000 in
theorem swapGone_walks (H : Type) (enc : TypeId × Value → H) : Walks H enc 9 [22, 51] := by
  intro W base args ds p hval hA _
  obtain ⟨v0, vs0, d0, ds0, p0, q0, hargs, rfl, rfl, h0, r0⟩ := trodAll_cons hA
  obtain ⟨v1, vs1, d1, ds1, p1, q1, rfl, rfl, rfl, h1, r1⟩ := trodAll_cons r0
  obtain ⟨rfl, rfl, rfl⟩ := trodAll_nil r1
  obtain rfl : args = #[v0, v1] := by cases args; simp_all
  obtain ⟨a0, n0, c0, x0, rfl, e0, f0, g0, j0, k0⟩ := open_bytes Try.underlying22 Try.underlying5 (by kernel_rfl) (hval 0 22 v0 rfl rfl) h0
  obtain ⟨a2, n2, c2, l2, rfl, hl, _, _, _, hh, hw⟩ := open_glyphsW (hval 1 51 v1 rfl rfl) h1
  exact swapGone_walk a0 n0 c0 x0 a2 n2 c2 l2 W e0 f0 g0 j0 hh hl (fun p hp => (hw p hp).1)

set_option maxRecDepth 100000 in
theorem swapGone_lifted (os : Os) (started : os.Started) (H : Type) (enc : TypeId × Value → H) :
    ReturnsInHanded {} Try.checked os 9 .any (Rows.swapGoneSpec.pre6 enc Try.prog Try.f9 Rows.swapGoneRow.domain false) (Rows.swapGoneSpec.post enc Try.prog Try.f9 false true false false) :=
  lift_law (s := Rows.swapGoneSpec) (fn := Try.f9) started (by kernel_rfl) Try.func9
    (ChangeSpec.witness6 (enc := enc) (C := Try.checked) false ⟨#[], #[.slice none 0 0, .slice none 0 0], []⟩ 8 (by kernel_rfl) (by kernel_rfl) (by kernel_rfl) (by kernel_rfl))
    rfl rfl (fun ds h => by match ds, h with | [d0, d1], _ => rfl) (by intro t ht; simp [Try.params9] at ht; first | (subst ht; exact ⟨by kernel_rfl, of_decide_eq_true (by kernel_rfl)⟩) | (obtain rfl | rfl := ht <;> exact ⟨by kernel_rfl, of_decide_eq_true (by kernel_rfl)⟩) | (obtain rfl | rfl | rfl := ht <;> exact ⟨by kernel_rfl, of_decide_eq_true (by kernel_rfl)⟩) | (obtain rfl | rfl | rfl | rfl := ht <;> exact ⟨by kernel_rfl, of_decide_eq_true (by kernel_rfl)⟩))
    (by rw [Try.params9]; exact swapGone_walks H enc)
theorem swapGone_over : Rows.swapGoneRow.holds Try.pinned (OpenSpec.ofChange Rows.swapGoneSpec) :=
  OpenClaim.holds_of_wide 9 Try.f9 rfl rfl rfl rfl rfl rfl rfl ⟨rfl, rfl, rfl, rfl, rfl⟩ rfl rfl rfl rfl rfl (by kernel_rfl) Try.func9 (by kernel_rfl)
    (of_decide_eq_true (by kernel_rfl)) (by unfold Func.isWrapper; first | (rw [if_pos (by decide +kernel)]; kernel_rfl) | (rw [if_neg (by decide +kernel)]; exact ⟨rfl, rfl⟩))
    (fun os started H enc _ => swapGone_lifted os started H enc)
theorem swapGone_proved : Rows.SwapGoneSaid := swapGone_over
#print axioms swapGone_proved
end Go.Proofs.Ytcegoenlajkgfaa
