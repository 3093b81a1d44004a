
/- (*line.Line).Join, and the document's Join. Conditions: a line in memory; as many numbers as the slice says; sizes. -/
import Derived.Test.YtjkddbbjbfajaaaGOrd
namespace Go.Proofs.Ytjkddbbjbfajaaa
open Go.RowKit Go.Lib

/-- The least cluster of one, and of some places' glyphs. -/
def joinC (l : List (Int × Int)) (c : Int) (ks : List Int) : Int := ks.foldl (fun c k => if inG l k = true ∧ (atG l k).2 < c then (atG l k).2 else c) c
theorem joinC_nil (l : List (Int × Int)) (c : Int) : joinC l c [] = c := rfl
theorem joinC_snoc (l : List (Int × Int)) (c : Int) (ks : List Int) (j : Nat) (k : Int) (h : ks[j]? = some k) : joinC l c (ks.take (j + 1)) = if inG l k = true ∧ (atG l k).2 < joinC l c (ks.take j) then (atG l k).2 else joinC l c (ks.take j) := by
  rw [List.take_add_one, h]
  show joinC l c (ks.take j ++ [k]) = _
  unfold joinC
  rw [List.foldl_append]
  rfl
theorem joinC_le (l : List (Int × Int)) : ∀ (ks : List Int) (c : Int), joinC l c ks ≤ c
  | [], c => Int.le_refl _
  | k :: ks, c => by
    have := joinC_le l ks (if inG l k = true ∧ (atG l k).2 < c then (atG l k).2 else c)
    unfold joinC at this ⊢
    rw [List.foldl_cons]
    refine Int.le_trans this ?_
    split <;> omega
def joinG (l : List (Int × Int)) (z : Int) (ks : List Int) : List (Int × Int) := if inG l z then l.set z.toNat ((atG l z).1, joinC l (atG l z).2 ks) else l
theorem joinG_length (l : List (Int × Int)) (z : Int) (ks : List Int) : (joinG l z ks).length = l.length := by unfold joinG; split <;> simp
theorem inG_set (l : List (Int × Int)) (i : Nat) (p : Int × Int) (z : Int) : inG (l.set i p) z = inG l z := by simp [inG]
theorem atG_set (l : List (Int × Int)) (i : Nat) (p : Int × Int) (z : Int) (h : z ≠ (i : Nat)) : atG (l.set i p) z = atG l z := by
  rw [atG, atG, inG_set]
  split
  · rename_i hz
    obtain ⟨j, q, rfl, hq⟩ := inG_yes hz
    have hj : i ≠ j := by rintro rfl; exact h rfl
    rw [Int.toNat_natCast, List.getD_eq_getElem?_getD, List.getD_eq_getElem?_getD, List.getElem?_set_ne hj]
  · rfl
set_option maxHeartbeats 3200000 in
set_option maxRecDepth 100000 in
theorem gjoin_any (B g : Nat) (a : Option Addr) (c : Nat) (l : List (Int × Int)) (z : Int) (ai : Option Addr) (m ci : Nat) (ks : List Int) (w : World) (h : GIs B g a c l w) (hi : Has w ai (iv ks)) (hd1 : ∀ p, ai = some p → 0 < m → p.block ≠ g) (hd2 : ∀ p q, ai = some p → a = some q → 0 < m → p.block ≠ q.block) (hil : ks.length = m) (hB : B ≤ g) (hBw : B ≤ w.heap.size) (hn : l.length ≤ 1000000) (hm : m ≤ 1000000) :
    Calls Try.prog 26 #[.pointer (some ⟨g, 0, none⟩), .int .i64 z, .slice ai m ci] w fun e w' => e = .returned (.tuple #[]) ∧ GIs B g a c (joinG l z ks) w' ∧ GStep B g a a w w' := by
  have hAC := allocC
  have hAF := allocF
  have HG := Lib.hid h
  have HH := Lib.hid (ghas_any B g a c l w h z)
  have HS0 := Lib.hid (GStep.of_below (B := B) (g := g) (a := a) (Below.refl w.heap.size w) hBw)
  have HI := Lib.hid hi
  have HIL := Lib.hid hil
  have HD1 := Lib.hid hd1
  have HD2 := Lib.hid hd2
  clear hi hd1 hd2 hil
  cases hin : inG l z with
  | false =>
    have hj : joinG l z ks = l := by rw [joinG, if_neg (by rw [hin]; decide)]
    have HJ := Lib.hid hj
    rw [hin] at HH
    clear h hj hin
    go_enter Try.func26, Try.ntmps26
    go_wp2_with (first | (go_at_call 31; (with_reducible refine HH.out.mono ?_); rintro e w_ ⟨rfl, rfl⟩))
    refine bodyPost_ret (v := .tuple #[]) (by simp [results, Try.results26, go_sem]) rfl ?_
    exact ⟨rfl, by rw [HJ.out]; exact HG.out, HS0.out⟩
  | true =>
    rw [hin] at HH
    obtain ⟨i, p, rfl, hp⟩ := inG_yes hin
    have HJ := Lib.hid (show joinG l (i : Nat) ks = l.set i (p.1, joinC l p.2 ks) by rw [joinG, if_pos hin, atG_of hp, Int.toNat_natCast])
    have hil := (List.getElem?_eq_some_iff.1 hp).1
    obtain ⟨gb, rfl, hBg, hgb, hne, c1, c2, f1, f2, _⟩ := h.glyph hp
    have q0 := cell_of_heap h.hd 0
    simp only [List.getElem?_toArray, List.getElem?_cons_zero] at q0
    have hgw := (Array.getElem?_eq_some_iff.1 h.hd).1
    have HP := Lib.hid hp
    have HST := Lib.hid (show l.set i (p.1, p.2) = l by
      apply List.ext_getElem?
      intro q
      rw [List.getElem?_set]
      by_cases hq : i = q
      · subst hq; rw [if_pos rfl, if_pos hil, hp]
      · rw [if_neg hq])
    obtain ⟨n, hnl⟩ : ∃ n, n = l.length := ⟨_, rfl⟩
    have HN := Lib.hid hnl
    rw [← hnl] at q0 hn hil
    clear h hp hin c1 c2 f1 f2 hnl
    obtain ⟨p1, p2⟩ := p
    simp only at HJ HST
    go_enter Try.func26, Try.ntmps26
    go_wp2_with (first | (go_at_call 31; (with_reducible refine HH.out.mono ?_); rintro e w_ ⟨rfl, rfl⟩))
    go_loopw [23] (fun x wr => ∃ j : Nat, j ≤ m ∧ x = .int .i64 (j : Nat) ∧ GIs B g (some ⟨gb, 0, none⟩) c (l.set i (p1, joinC l p2 (ks.take j))) wr ∧ GStep B g (some ⟨gb, 0, none⟩) (some ⟨gb, 0, none⟩) w wr) (fun x _ => m - (intOf x).toNat)
    case atStart => exact ⟨0, Nat.zero_le _, rfl, by rw [List.take_zero, joinC_nil, HST.out]; exact HG.out, HS0.out⟩
    case round =>
      obtain ⟨j, hj, rfl, hg, hs⟩ := hrel
      have HG3 := Lib.hid hg
      have HS3 := Lib.hid hs
      have hwr := hs.below.size
      clear hg hs
      by_cases hlt : j < m
      · obtain ⟨gi, oi, k, rfl, hgi, hk, hci⟩ := iv_at (HS3.out.has HI.out (fun p hp => HD1.out p hp (by omega)) (fun p q hp hq => HD2.out p q hp hq (by omega))) (k := j) (by rw [HIL.out]; exact hlt)
        have HC := Lib.hid (joinC_snoc l p2 ks j k hk)
        have hle := joinC_le l (ks.take j) p2
        obtain ⟨C, hC⟩ : ∃ C, C = joinC l p2 (ks.take j) := ⟨_, rfl⟩
        rw [← hC] at HG3 HC hle
        have hcur : (l.set i (p1, C))[i]? = some (p1, C) := by rw [List.getElem?_set_self (by rw [← HN.out]; exact hil)]
        have HAt := Lib.hid (fun W (hW : Below wr.heap.size wr W) => gat_any B g _ c _ W (HG3.out.below hW) k)
        clear hC hk
        by_cases hki : inG l k = true
        · -- there is a glyph
          obtain ⟨x0, x1, hx, hx2⟩ : ∃ x0 x1, atG (l.set i (p1, C)) k = (x0, x1) ∧ (if x1 < C then x1 else C) = (if inG l k = true ∧ (atG l k).2 < C then (atG l k).2 else C) := by
            by_cases hke : k = (i : Nat)
            · subst hke
              refine ⟨p1, C, atG_of hcur, ?_⟩
              rw [atG_of HP.out, if_neg (by omega), if_neg (by simp; intro _; omega)]
            · refine ⟨(atG l k).1, (atG l k).2, by rw [atG_set _ _ _ _ hke], ?_⟩
              simp [hki]
          rw [← hx2] at HC
          rw [hx, inG_set, hki] at HAt
          simp only [glyphA] at HAt
          obtain ⟨gb', he, _, hgbw, _, e1, e2, ff1, ff2, _, hset⟩ := HG3.out.glyph hcur
          cases he
          have HSET := Lib.hid (fun W (hW : Below wr.heap.size wr W) x => by
            obtain ⟨gb', he, _, _, _, _, _, _, _, _, hset⟩ := (HG3.out.below hW).glyph hcur
            cases he
            have := hset x
            rw [List.set_set] at this
            exact this)
          clear hset hx hx2
          simp only at e2
          by_cases hlx : x1 < C
          · rw [if_pos hlx] at HC
            go_wp2_with (first | (go_at_call 15; (with_reducible refine (HAt.out _ (by exact brefl _)).mono ?_); rintro e w3 ⟨rfl, hb3⟩; have HB3 := Lib.hid hb3; have h3c := bc hb3; have h3f := bf hb3; have h3z := hb3.size; clear hb3))
            obtain ⟨W, hW⟩ : ∃ W, W = w3.alloc (.cells #[.int .i64 x0, .int .i64 x1] 38) := ⟨_, rfl⟩
            have hbW : Below wr.heap.size wr W := by rw [hW]; exact HB3.out.alloc h3z _
            have y1 : W.cell? ⟨w3.heap.size, 1, none⟩ = some (.int .i64 x1) := by rw [hW, hAC, if_pos rfl]; rfl
            have y2 : W.cell? ⟨gb, i * 2 + 1, none⟩ = some (.int .i64 C) := (hbW.cell (p := ⟨gb, i * 2 + 1, none⟩) hgbw).trans e2
            have y3 : W.frozen? ⟨gb, i * 2 + 1, none⟩ = false := (hbW.frozen (p := ⟨gb, i * 2 + 1, none⟩) hgbw).trans ff2
            have hl1 := cell_lt y1
            have hl2 := cell_lt y2
            simp only at hl1 hl2
            have HBW := Lib.hid hbW
            rw [← hW]
            clear hW hbW h3c h3f HB3
            refine wp_region_last (.step 0 (.step 1 (.step 2 (.step 3 (.step 4 (.step 5 (.step 6 (.step 7 (.step 8 (.step 9 (.step 10 .nil))))))))))) 10 (by kernel_rfl) (by kernel_rfl) (by kernel_rfl) (by kernel_rfl) (by kernel_rfl) (by intro _ _ d_ _ _ h_; cases d_ <;> first | exact h_ | (dsimp +zetaDelta only at h_ ⊢; exact h_)) (fun w' => ∃ p : Wld W [], w' = p.val) (wld_start _ _) ?_
            have hG_ := @wldC W
            (refine z_quiet (by simp only [List.getElem?_toArray, List.getElem?_cons_succ, List.getElem?_cons_zero]; rfl) (by rfl) (by rfl) (fun K_ hK_ => ?_); go_big_quiet_op; refine hK_ _ ?_; clear hK_ K_)
            (refine z_quiet (by simp only [List.getElem?_toArray, List.getElem?_cons_succ, List.getElem?_cons_zero]; rfl) (by rfl) (by rfl) (fun K_ hK_ => ?_); go_big_quiet_op; refine hK_ _ ?_; clear hK_ K_)
            (refine z_quiet (by simp only [List.getElem?_toArray, List.getElem?_cons_succ, List.getElem?_cons_zero]; rfl) (by rfl) (by rfl) (fun K_ hK_ => ?_); go_big_quiet_op; refine hK_ _ ?_; clear hK_ K_)
            (refine z_quiet (by simp only [List.getElem?_toArray, List.getElem?_cons_succ, List.getElem?_cons_zero]; rfl) (by rfl) (by rfl) (fun K_ hK_ => ?_); go_big_quiet_op; refine hK_ _ ?_; clear hK_ K_)
            (refine z_quiet (by simp only [List.getElem?_toArray, List.getElem?_cons_succ, List.getElem?_cons_zero]; rfl) (by rfl) (by rfl) (fun K_ hK_ => ?_); go_big_quiet_op; refine hK_ _ ?_; clear hK_ K_)
            (refine z_quiet (by simp only [List.getElem?_toArray, List.getElem?_cons_succ, List.getElem?_cons_zero]; rfl) (by rfl) (by rfl) (fun K_ hK_ => ?_); go_big_quiet_op; refine hK_ _ ?_; clear hK_ K_)
            (refine z_quiet (by simp only [List.getElem?_toArray, List.getElem?_cons_succ, List.getElem?_cons_zero]; rfl) (by rfl) (by rfl) (fun K_ hK_ => ?_); go_big_quiet_op; refine hK_ _ ?_; clear hK_ K_)
            (refine z_quiet (by simp only [List.getElem?_toArray, List.getElem?_cons_succ, List.getElem?_cons_zero]; rfl) (by rfl) (by rfl) (fun K_ hK_ => ?_); go_big_quiet_op; refine hK_ _ ?_; clear hK_ K_)
            (refine z_quiet (by simp only [List.getElem?_toArray, List.getElem?_cons_succ, List.getElem?_cons_zero]; rfl) (by rfl) (by rfl) (fun K_ hK_ => ?_); go_big_quiet_op; refine hK_ _ ?_; clear hK_ K_)
            (refine z_quiet (by simp only [List.getElem?_toArray, List.getElem?_cons_succ, List.getElem?_cons_zero]; rfl) (by rfl) (by rfl) (fun K_ hK_ => ?_); go_big_quiet_op; refine hK_ _ ?_; clear hK_ K_)
            (refine z_last (by simp only [List.getElem?_toArray, List.getElem?_cons_succ, List.getElem?_cons_zero]; rfl) (by rfl) (by rfl) (by rfl) (fun K_ hK_ => ?_); have HK_ := Lib.hid hK_; clear hK_; go_wp2_with (fail); refine HK_.out _ _ ?_; clear HK_)
            refine z_nil ?_
            clear hG_
            go_wp2_with fail
            go_roundw
            case rel => exact ⟨j + 1, hlt, by go_num, by rw [HC.out]; exact HSET.out _ HBW.out.drew _, (HS3.out.trans (GStep.of_below HBW.out.drew (by omega))).trans (GStep.set _ rfl hBg)⟩
            case measure => simp [intOf]; omega
          · rw [if_neg hlx] at HC
            go_wp2_with (first | (go_at_call 15; (with_reducible refine (HAt.out _ (by exact brefl _)).mono ?_); rintro e w3 ⟨rfl, hb3⟩; have HB3 := Lib.hid hb3; have h3c := bc hb3; have h3f := bf hb3; have h3z := hb3.size; clear hb3))
            obtain ⟨W, hW⟩ : ∃ W, W = w3.alloc (.cells #[.int .i64 x0, .int .i64 x1] 38) := ⟨_, rfl⟩
            have hbW : Below wr.heap.size wr W := by rw [hW]; exact HB3.out.alloc h3z _
            have y1 : W.cell? ⟨w3.heap.size, 1, none⟩ = some (.int .i64 x1) := by rw [hW, hAC, if_pos rfl]; rfl
            have y2 : W.cell? ⟨gb, i * 2 + 1, none⟩ = some (.int .i64 C) := (hbW.cell (p := ⟨gb, i * 2 + 1, none⟩) hgbw).trans e2
            have y3 : W.frozen? ⟨gb, i * 2 + 1, none⟩ = false := (hbW.frozen (p := ⟨gb, i * 2 + 1, none⟩) hgbw).trans ff2
            have hl1 := cell_lt y1
            have hl2 := cell_lt y2
            simp only at hl1 hl2
            have HBW := Lib.hid hbW
            rw [← hW]
            clear hW hbW h3c h3f HB3
            refine wp_region_last (.step 0 (.step 1 (.step 2 (.step 3 (.step 4 (.step 5 (.step 6 (.step 7 (.step 8 (.step 9 (.step 10 .nil))))))))))) 10 (by kernel_rfl) (by kernel_rfl) (by kernel_rfl) (by kernel_rfl) (by kernel_rfl) (by intro _ _ d_ _ _ h_; cases d_ <;> first | exact h_ | (dsimp +zetaDelta only at h_ ⊢; exact h_)) (fun w' => ∃ p : Wld W [], w' = p.val) (wld_start _ _) ?_
            have hG_ := @wldC W
            (refine z_quiet (by simp only [List.getElem?_toArray, List.getElem?_cons_succ, List.getElem?_cons_zero]; rfl) (by rfl) (by rfl) (fun K_ hK_ => ?_); go_big_quiet_op; refine hK_ _ ?_; clear hK_ K_)
            (refine z_quiet (by simp only [List.getElem?_toArray, List.getElem?_cons_succ, List.getElem?_cons_zero]; rfl) (by rfl) (by rfl) (fun K_ hK_ => ?_); go_big_quiet_op; refine hK_ _ ?_; clear hK_ K_)
            (refine z_quiet (by simp only [List.getElem?_toArray, List.getElem?_cons_succ, List.getElem?_cons_zero]; rfl) (by rfl) (by rfl) (fun K_ hK_ => ?_); go_big_quiet_op; refine hK_ _ ?_; clear hK_ K_)
            (refine z_quiet (by simp only [List.getElem?_toArray, List.getElem?_cons_succ, List.getElem?_cons_zero]; rfl) (by rfl) (by rfl) (fun K_ hK_ => ?_); go_big_quiet_op; refine hK_ _ ?_; clear hK_ K_)
            (refine z_quiet (by simp only [List.getElem?_toArray, List.getElem?_cons_succ, List.getElem?_cons_zero]; rfl) (by rfl) (by rfl) (fun K_ hK_ => ?_); go_big_quiet_op; refine hK_ _ ?_; clear hK_ K_)
            (refine z_quiet (by simp only [List.getElem?_toArray, List.getElem?_cons_succ, List.getElem?_cons_zero]; rfl) (by rfl) (by rfl) (fun K_ hK_ => ?_); go_big_quiet_op; refine hK_ _ ?_; clear hK_ K_)
            (refine z_quiet (by simp only [List.getElem?_toArray, List.getElem?_cons_succ, List.getElem?_cons_zero]; rfl) (by rfl) (by rfl) (fun K_ hK_ => ?_); go_big_quiet_op; refine hK_ _ ?_; clear hK_ K_)
            (refine z_quiet (by simp only [List.getElem?_toArray, List.getElem?_cons_succ, List.getElem?_cons_zero]; rfl) (by rfl) (by rfl) (fun K_ hK_ => ?_); go_big_quiet_op; refine hK_ _ ?_; clear hK_ K_)
            (refine z_quiet (by simp only [List.getElem?_toArray, List.getElem?_cons_succ, List.getElem?_cons_zero]; rfl) (by rfl) (by rfl) (fun K_ hK_ => ?_); go_big_quiet_op; refine hK_ _ ?_; clear hK_ K_)
            (refine z_quiet (by simp only [List.getElem?_toArray, List.getElem?_cons_succ, List.getElem?_cons_zero]; rfl) (by rfl) (by rfl) (fun K_ hK_ => ?_); go_big_quiet_op; refine hK_ _ ?_; clear hK_ K_)
            (refine z_last (by simp only [List.getElem?_toArray, List.getElem?_cons_succ, List.getElem?_cons_zero]; rfl) (by rfl) (by rfl) (by rfl) (fun K_ hK_ => ?_); have HK_ := Lib.hid hK_; clear hK_; go_wp2_with (fail); refine HK_.out _ _ ?_; clear HK_)
            refine z_nil ?_
            clear hG_
            go_wp2_with fail
            go_roundw
            case rel => exact ⟨j + 1, hlt, by go_num, by rw [HC.out]; exact HSET.out _ HBW.out.drew _, (HS3.out.trans (GStep.of_below HBW.out.drew (by omega))).trans (GStep.set _ rfl hBg)⟩
            case measure => simp [intOf]; omega
        · have hki' : inG l k = false := by simpa using hki
          rw [if_neg (fun e => hki e.1)] at HC
          rw [inG_set, hki'] at HAt
          obtain ⟨x0, x1, hx⟩ : ∃ x0 x1, atG (l.set i (p1, C)) k = (x0, x1) := ⟨_, _, rfl⟩
          rw [hx] at HAt
          simp only [glyphA] at HAt
          clear hki hki' hx
          go_wp2_with (first | (go_at_call 15; (with_reducible refine (HAt.out _ (by exact brefl _)).mono ?_); rintro e w3 ⟨rfl, hb3⟩; have HB3 := Lib.hid hb3; clear hb3))
          go_roundw
          case rel =>
            have hb := HB3.out.alloc HB3.out.size (.cells #[.int .i64 x0, .int .i64 x1] 38)
            refine ⟨j + 1, hlt, by go_num, by rw [HC.out]; exact HG3.out.below hb, HS3.out.trans (GStep.of_below hb (by omega))⟩
          case measure => simp [intOf]; omega
      · obtain rfl : m = j := by omega
        go_wp2_with fail
        go_end0
        refine ⟨rfl, ?_, HS3.out⟩
        have := HG3.out
        rw [List.take_of_length_le (Nat.le_of_eq HIL.out)] at this
        rw [HJ.out]
        exact this
end Go.Proofs.Ytjkddbbjbfajaaa
