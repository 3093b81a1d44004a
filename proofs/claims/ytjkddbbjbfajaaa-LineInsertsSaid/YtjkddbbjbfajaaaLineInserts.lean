
/- LineInserts returns true for every line, every place and every numbers, and changes nothing: what is inserted stands where it is asked to, in order; all others stay in theirs. No condition beside the row's own. -/
import Derived.Test.YtjkddbbjbfajaaaGSpeak
import Derived.Test.YtjkddbbjbfajaaaGFrame
namespace Go.Proofs.Ytjkddbbjbfajaaa
open Go.RowKit Go.Lib

theorem Has.advK {w : World} {a : Option Addr} {l : List (Int × Int)} (h : Has w a (gv l)) (c k : Nat) (hc : l.length ≤ c) : Has w (if c = k then a else a.map (·.add (k * 2))) (gv (l.drop k)) := by
  split
  · rename_i e
    rw [List.drop_eq_nil_of_le (by omega)]
    exact Has.nil _ _
  · have := Has.adv h (c * 2) (k * 2) (by rw [gv_length]; omega)
    rw [Proofs.Ytjkddbbjbfajaaa.adv, if_neg (by omega), ← gv_drop] at this
    exact this
theorem insG_ok {l : List (Int × Int)} {i : Nat} (ids : List Int) (hi : i ≤ l.length) : insG l (i : Nat) ids = l.take i ++ ((ids.map fun x => (x, insC l i)) ++ l.drop i) := by
  rw [insG, if_pos (by simp [okI]; omega), Int.toNat_natCast]
theorem insG_mid {l : List (Int × Int)} {i j : Nat} {z : Int} {ids : List Int} (hi : i ≤ l.length) (hj : ids[j]? = some z) : (insG l (i : Nat) ids)[i + j]? = some (z, insC l i) := by
  have hlt := (List.getElem?_eq_some_iff.1 hj).1
  rw [insG_ok ids hi, List.getElem?_append_right (by rw [List.length_take]; omega), List.length_take, Nat.min_eq_left hi, show i + j - i = j by omega, List.getElem?_append_left (by rw [List.length_map]; exact hlt), List.getElem?_map, hj]
  rfl
set_option maxHeartbeats 3200000 in
set_option maxRecDepth 100000 in
theorem lineInserts_walk (a : Option Addr) (n c : Nat) (l : List (Int × Int)) (z : Int) (ai : Option Addr) (m ci : Nat) (ids : List Int) (w : World) (h : Has w a (gv l)) (hl : l.length = n) (hnc : n ≤ c) (hA : a = none → c = 0) (hi : Has w ai (iv ids)) (hil : ids.length = m) :
    Calls Try.prog 6 #[.slice a n c, .int .i64 z, .slice ai m ci] w fun e w' => e = .returned (.bool true) ∧ Below w.heap.size w w' := by
  have hAC := allocC
  have hAF := allocF
  have HSP := Lib.hid (fun W => speaks11_any W)
  have HH := Lib.hid h
  have HL := Lib.hid hl
  have HA := Lib.hid hA
  have HI := Lib.hid hi
  have HIL := Lib.hid hil
  clear h hl hA hi hil
  by_cases hbig : 60 < n
  · have d1 : decide (60 < (n : Int)) = true := by simp; omega
    clear hnc
    go_enter Try.func6, Try.ntmps6
    go_wp2_with (first | (go_at_call 7; (with_reducible refine (HSP.out _).mono ?_); rintro e w1 ⟨rfl, hb1⟩; have h1c := bc hb1; have h1f := bf hb1; have h1z := hb1.size; try simp only [World.size_alloc, World.size_drew] at h1z))
    go_ret
    exact ⟨rfl, blw⟩
  have d1 : decide (60 < (n : Int)) = false := by simp; omega
  by_cases hbig2 : 40 < m
  · have d2 : decide (40 < (m : Int)) = true := by simp; omega
    go_enter Try.func6, Try.ntmps6
    go_wp2_with (first | (go_at_call 7; (with_reducible refine (HSP.out _).mono ?_); rintro e w1 ⟨rfl, hb1⟩; have h1c := bc hb1; have h1f := bf hb1; have h1z := hb1.size; try simp only [World.size_alloc, World.size_drew] at h1z))
    go_ret
    exact ⟨rfl, blw⟩
  have d2 : decide (40 < (m : Int)) = false := by simp; omega
  by_cases hz : 0 ≤ z ∧ z ≤ (n : Int)
  case neg =>
    have hok : okI l z = false := by simp only [okI, HL.out, Bool.and_eq_false_iff, decide_eq_false_iff_not]; omega
    have hin : insG l z ids = l := by rw [insG, if_neg (by rw [hok]; decide)]
    by_cases hz0 : z < 0
    · have d3 : decide (z < 0) = true := by simpa using hz0
      clear hz
      go_enter Try.func6, Try.ntmps6
      go_wp2_with (first
        | (go_at_call 7; (with_reducible refine (HSP.out _).mono ?_); rintro e w1 ⟨rfl, hb1⟩; have h1c := bc hb1; have h1f := bf hb1; have h1z := hb1.size; try simp only [World.size_alloc, World.size_drew] at h1z)
        | (go_at_call 16; (with_reducible refine (gof_any a n c l w1 (HH.out.below hb1) HL.out (by omega)).mono ?_); rintro e w3 ⟨g, a3, c3, rfl, hG, hgg, hb3⟩; have HG3 := Lib.hid hG; have HB3 := Lib.hid (hb1.trans (hb3.mono h1z)); have hz3 := hb3.size; clear hG hb3)
        | (go_at_call 19; (with_reducible refine (gins_any w1.heap.size g a3 c3 l z ai m ci ids w3 HG3.out (HI.out.below HB3.out) HIL.out hgg hz3 (by rw [HL.out]; omega) (by omega)).mono ?_); rintro e w4 ⟨a4, c4, rfl, hG, hS⟩; rw [hin] at hG; rw [hok]; have HG4 := Lib.hid hG; have HB4 := Lib.hid (HB3.out.trans (hS.below.mono h1z)); clear hG hS)
        | (go_at_call 13; (with_reducible refine (gglyphs_any _ g a4 c4 l w4 HG4.out (by rw [HL.out]; omega)).mono ?_); rintro e w5 ⟨a5, c5, rfl, ho, _, _, _, hb5⟩; rw [HL.out] at ho; rw [HL.out]; have HM5 := Lib.hid ho; have HB5 := Lib.hid (HB4.out.trans (hb5.mono HB4.out.size)); clear ho hb5)
        | (go_at_call 12; (with_reducible refine (refSameG_any a5 a n c5 n c l l w5 (has_of_owns HM5.out) HL.out (HH.out.below HB5.out) HL.out (by omega) (by omega)).mono ?_); rintro e w6 ⟨rfl, hb6⟩; have HB6 := Lib.hid (HB5.out.trans (hb6.mono HB5.out.size)); clear hb6))
      go_ret
      exact ⟨by simp, HB6.out⟩
    · have d3 : decide (z < 0) = false := by simpa using hz0
      have d4 : decide ((n : Int) < z) = true := by simp; omega
      clear hz hz0
      go_enter Try.func6, Try.ntmps6
      go_wp2_with (first
        | (go_at_call 7; (with_reducible refine (HSP.out _).mono ?_); rintro e w1 ⟨rfl, hb1⟩; have h1c := bc hb1; have h1f := bf hb1; have h1z := hb1.size; try simp only [World.size_alloc, World.size_drew] at h1z)
        | (go_at_call 16; (with_reducible refine (gof_any a n c l w1 (HH.out.below hb1) HL.out (by omega)).mono ?_); rintro e w3 ⟨g, a3, c3, rfl, hG, hgg, hb3⟩; have HG3 := Lib.hid hG; have HB3 := Lib.hid (hb1.trans (hb3.mono h1z)); have hz3 := hb3.size; clear hG hb3)
        | (go_at_call 19; (with_reducible refine (gins_any w1.heap.size g a3 c3 l z ai m ci ids w3 HG3.out (HI.out.below HB3.out) HIL.out hgg hz3 (by rw [HL.out]; omega) (by omega)).mono ?_); rintro e w4 ⟨a4, c4, rfl, hG, hS⟩; rw [hin] at hG; rw [hok]; have HG4 := Lib.hid hG; have HB4 := Lib.hid (HB3.out.trans (hS.below.mono h1z)); clear hG hS)
        | (go_at_call 13; (with_reducible refine (gglyphs_any _ g a4 c4 l w4 HG4.out (by rw [HL.out]; omega)).mono ?_); rintro e w5 ⟨a5, c5, rfl, ho, _, _, _, hb5⟩; rw [HL.out] at ho; rw [HL.out]; have HM5 := Lib.hid ho; have HB5 := Lib.hid (HB4.out.trans (hb5.mono HB4.out.size)); clear ho hb5)
        | (go_at_call 12; (with_reducible refine (refSameG_any a5 a n c5 n c l l w5 (has_of_owns HM5.out) HL.out (HH.out.below HB5.out) HL.out (by omega) (by omega)).mono ?_); rintro e w6 ⟨rfl, hb6⟩; have HB6 := Lib.hid (HB5.out.trans (hb6.mono HB5.out.size)); clear hb6))
      go_ret
      exact ⟨by simp, HB6.out⟩
  obtain ⟨i, rfl⟩ : ∃ i : Nat, z = i := ⟨z.toNat, by omega⟩
  have hin : i ≤ n := by omega
  have hok : okI l (i : Nat) = true := by simp [okI, HL.out]; omega
  have d3 : decide ((i : Int) < 0) = false := by simp
  have d4 : decide ((n : Int) < (i : Int)) = false := by simp; omega
  obtain ⟨R, hR⟩ : ∃ R, R = insG l (i : Nat) ids := ⟨_, rfl⟩
  have hRl : R.length = n + m := by rw [hR, insG_ok ids (by rw [HL.out]; exact hin)]; simp [HL.out, HIL.out]; omega
  have HMID := Lib.hid (fun (j : Nat) (x : Int) (hj : ids[j]? = some x) => show R[i + j]? = some (x, insC l i) by rw [hR]; exact insG_mid (by rw [HL.out]; exact hin) hj)
  have HT := Lib.hid (show R.take i = l.take i by rw [hR, insG_ok ids (by rw [HL.out]; exact hin), List.take_append_of_le_length (by rw [List.length_take, HL.out]; omega), List.take_take, Nat.min_self])
  have HD := Lib.hid (show R.drop (i + m) = l.drop i by rw [hR, insG_ok ids (by rw [HL.out]; exact hin), ← List.append_assoc, List.drop_append_of_le_length (by simp [HL.out, HIL.out]; omega), List.drop_eq_nil_of_le (by simp [HL.out, HIL.out]; omega), List.nil_append])
  have HR := Lib.hid hR
  have HRL := Lib.hid hRl
  clear hR hRl hz
  go_enter Try.func6, Try.ntmps6
  go_wp2_with (first
    | (go_at_call 7; (with_reducible refine (HSP.out _).mono ?_); rintro e w1 ⟨rfl, hb1⟩; have h1c := bc hb1; have h1f := bf hb1; have h1z := hb1.size; try simp only [World.size_alloc, World.size_drew] at h1z)
    | (go_at_call 16; (with_reducible refine (gof_any a n c l w1 (HH.out.below hb1) HL.out (by omega)).mono ?_); rintro e w3 ⟨g, a3, c3, rfl, hG, hgg, hb3⟩; have HG3 := Lib.hid hG; have HB3 := Lib.hid (hb1.trans (hb3.mono h1z)); have hz3 := hb3.size; clear hG hb3)
    | (go_at_call 19; (with_reducible refine (gins_any w1.heap.size g a3 c3 l (i : Nat) ai m ci ids w3 HG3.out (HI.out.below HB3.out) HIL.out hgg hz3 (by rw [HL.out]; omega) (by omega)).mono ?_); rintro e w4 ⟨a4, c4, rfl, hG, hS⟩; rw [← HR.out] at hG; rw [hok]; have HG4 := Lib.hid hG; have HB4 := Lib.hid (HB3.out.trans (hS.below.mono h1z)); clear hG hS)
    | (go_at_call 13; (with_reducible refine (gglyphs_any _ g a4 c4 R w4 HG4.out (by rw [HRL.out]; omega)).mono ?_); rintro e w5 ⟨a5, c5, rfl, ho, k51, k52, k53, hb5⟩; rw [HRL.out] at ho k51; rw [HRL.out]; have HM5 := Lib.hid ho; have HA5 := Lib.hid k53; have HB5 := Lib.hid (HB4.out.trans (hb5.mono HB4.out.size)); clear ho hb5 k53))
  have hz5 : w.heap.size ≤ w5.heap.size := HB5.out.size
  have HH5 := Lib.hid (HH.out.below HB5.out)
  have HM5H := Lib.hid (has_of_owns HM5.out)
  clear HG3 HG4 HB3 HB4 h1c h1f hb1 hAC hAF HSP
  by_cases hc5 : c5 = i + m
  · by_cases hc : c = i
    ·
      have HS1 := Lib.hid (fun W (hW : Below w5.heap.size w5 W) x y => refSameG_any a5 a i x i y (R.take i) (l.take i) W (by rw [gv_take]; exact (HM5H.out.below hW).take _) (by rw [List.length_take, HRL.out]; omega) (by rw [gv_take]; exact (HH5.out.below hW).take _) (by rw [List.length_take, HL.out]; omega) (by omega) (by omega))
      rw [HT.out, decide_eq_true rfl] at HS1
      have HR2 := Lib.hid (show Has w5 a5 (gv (R.drop (i + m))) from by have := HM5H.out.advK c5 (i + m) (by rw [HRL.out]; omega); rwa [if_pos hc5] at this)
      have HL2 := Lib.hid (show Has w5 a (gv (l.drop i)) from by have := HH5.out.advK c i (by rw [HL.out]; omega); rwa [if_pos hc] at this)
      have HS2 := Lib.hid (fun W (hW : Below w5.heap.size w5 W) x y => refSameG_any a5 a (n + m - (i + m)) x (n - i) y (R.drop (i + m)) (l.drop i) W (HR2.out.below hW) (by rw [List.length_drop, HRL.out]) (HL2.out.below hW) (by rw [List.length_drop, HL.out]) (by omega) (by omega))
      rw [HD.out, decide_eq_true rfl] at HS2
      clear HR2 HL2
      refine wp_region_tree (.step 0 (.step 1 (.step 2 (.step 3 (.step 4 (.step 5 (.step 6 (.step 7 (.step 8 (.step 9 (.step 10 (.step 11 (.step 12 (.step 13 (.step 14 (.step 15 (.narrow (.step 16 (.step 17 (.step 18 (.step 19 (.step 20 (.step 21 (.step 22 (.step 23 (.step 24 (.step 25 (.step 26 (.step 27 (.step 28 (.narrow (.step 29 (.step 30 .nil))))))))))))))))))))))))))))))))) (by kernel_rfl) (by kernel_rfl) (by kernel_rfl) (by kernel_rfl) (by intro _ _ d_ _ _ h_; cases d_ <;> first | exact h_ | (dsimp +zetaDelta only at h_ ⊢; exact h_)) (fun w' => ∃ p : Wld w5 [], w' = p.val) (wld_start _ _) ?_
      have hG_ := @wldC w5
      (refine tree_quiet (by simp only [List.getElem?_toArray, List.getElem?_cons_succ, List.getElem?_cons_zero]; rfl) (by rfl) (by rfl) (fun K_ hK_ => ?_); go_big_quiet_op; refine hK_ _ ?_; clear hK_ K_)
      (refine tree_quiet (by simp only [List.getElem?_toArray, List.getElem?_cons_succ, List.getElem?_cons_zero]; rfl) (by rfl) (by rfl) (fun K_ hK_ => ?_); go_big_quiet_op; refine hK_ _ ?_; clear hK_ K_)
      (refine tree_quiet (by simp only [List.getElem?_toArray, List.getElem?_cons_succ, List.getElem?_cons_zero]; rfl) (by rfl) (by rfl) (fun K_ hK_ => ?_); go_big_quiet_op; refine hK_ _ ?_; clear hK_ K_)
      (refine tree_quiet (by simp only [List.getElem?_toArray, List.getElem?_cons_succ, List.getElem?_cons_zero]; rfl) (by rfl) (by rfl) (fun K_ hK_ => ?_); go_big_quiet_op; refine hK_ _ ?_; clear hK_ K_)
      (refine tree_quiet (by simp only [List.getElem?_toArray, List.getElem?_cons_succ, List.getElem?_cons_zero]; rfl) (by rfl) (by rfl) (fun K_ hK_ => ?_); go_big_quiet_op; refine hK_ _ ?_; clear hK_ K_)
      (refine tree_quiet (by simp only [List.getElem?_toArray, List.getElem?_cons_succ, List.getElem?_cons_zero]; rfl) (by rfl) (by rfl) (fun K_ hK_ => ?_); go_big_quiet_op; refine hK_ _ ?_; clear hK_ K_)
      (refine tree_quiet (by simp only [List.getElem?_toArray, List.getElem?_cons_succ, List.getElem?_cons_zero]; rfl) (by rfl) (by rfl) (fun K_ hK_ => ?_); go_big_quiet_op; refine hK_ _ ?_; clear hK_ K_)
      (refine tree_quiet (by simp only [List.getElem?_toArray, List.getElem?_cons_succ, List.getElem?_cons_zero]; rfl) (by rfl) (by rfl) (fun K_ hK_ => ?_); go_big_quiet_op; refine hK_ _ ?_; clear hK_ K_)
      (refine tree_quiet (by simp only [List.getElem?_toArray, List.getElem?_cons_succ, List.getElem?_cons_zero]; rfl) (by rfl) (by rfl) (fun K_ hK_ => ?_); go_big_quiet_op; refine hK_ _ ?_; clear hK_ K_)
      (refine tree_quiet (by simp only [List.getElem?_toArray, List.getElem?_cons_succ, List.getElem?_cons_zero]; rfl) (by rfl) (by rfl) (fun K_ hK_ => ?_); go_big_quiet_op; refine hK_ _ ?_; clear hK_ K_)
      (refine tree_quiet (by simp only [List.getElem?_toArray, List.getElem?_cons_succ, List.getElem?_cons_zero]; rfl) (by rfl) (by rfl) (fun K_ hK_ => ?_); go_big_quiet_op; refine hK_ _ ?_; clear hK_ K_)
      (refine tree_quiet (by simp only [List.getElem?_toArray, List.getElem?_cons_succ, List.getElem?_cons_zero]; rfl) (by rfl) (by rfl) (fun K_ hK_ => ?_); go_big_quiet_op; refine hK_ _ ?_; clear hK_ K_)
      (refine tree_quiet (by simp only [List.getElem?_toArray, List.getElem?_cons_succ, List.getElem?_cons_zero]; rfl) (by rfl) (by rfl) (fun K_ hK_ => ?_); go_big_quiet_op; refine hK_ _ ?_; clear hK_ K_)
      (refine tree_quiet (by simp only [List.getElem?_toArray, List.getElem?_cons_succ, List.getElem?_cons_zero]; rfl) (by rfl) (by rfl) (fun K_ hK_ => ?_); go_big_quiet_op; refine hK_ _ ?_; clear hK_ K_)
      (refine tree_quiet (by simp only [List.getElem?_toArray, List.getElem?_cons_succ, List.getElem?_cons_zero]; rfl) (by rfl) (by rfl) (fun K_ hK_ => ?_); go_big_quiet_op; refine hK_ _ ?_; clear hK_ K_)
      (refine tree_run (by simp only [List.getElem?_toArray, List.getElem?_cons_succ, List.getElem?_cons_zero]; rfl) (by rfl) (by rfl) (fun K_ hK_ => ?_); have HK_ := Lib.hid hK_; clear hK_; go_wp2_with (first | (go_at_call 12; (with_reducible refine (HS1.out _ (by exact blw) _ _).mono ?_); rintro e w6 ⟨rfl, hb6⟩) | (go_at_call 12; (with_reducible refine (HS2.out _ (by exact blw) _ _).mono ?_); rintro e w7 ⟨rfl, hb7⟩)); refine HK_.out _ _ (wld_ofA) ?_; clear HK_)
      refine tree_move (by repeat (first | with_reducible exact same_below (brefl _) | with_reducible exact same_below (bdrew1 (brefl _)) | with_reducible assumption | with_reducible refine same_drew ?_ | (with_reducible refine same_set ?_ (by first | (left; simp; done) | (right; simp; done) | (right; simp; omega)) _) | with_reducible refine same_then ?_ (by assumption) | with_reducible refine same_alloc ?_ _ | exact same_below (brefl _) | exact same_realloc (by simp) | exact same_below (bdrew1 (brefl _)) | assumption | refine same_drew ?_ | refine same_then ?_ (by assumption) | refine same_alloc ?_ _ | (refine same_set ?_ (by first | (left; simp; done) | (right; simp; done) | (right; simp; omega)) _))) ?_; clear hG_; intro hG_
      (refine tree_quiet (by simp only [List.getElem?_toArray, List.getElem?_cons_succ, List.getElem?_cons_zero]; rfl) (by rfl) (by rfl) (fun K_ hK_ => ?_); go_big_quiet_op; refine hK_ _ ?_; clear hK_ K_)
      (refine tree_quiet (by simp only [List.getElem?_toArray, List.getElem?_cons_succ, List.getElem?_cons_zero]; rfl) (by rfl) (by rfl) (fun K_ hK_ => ?_); go_big_quiet_op; refine hK_ _ ?_; clear hK_ K_)
      (refine tree_quiet (by simp only [List.getElem?_toArray, List.getElem?_cons_succ, List.getElem?_cons_zero]; rfl) (by rfl) (by rfl) (fun K_ hK_ => ?_); go_big_quiet_op; refine hK_ _ ?_; clear hK_ K_)
      (refine tree_quiet (by simp only [List.getElem?_toArray, List.getElem?_cons_succ, List.getElem?_cons_zero]; rfl) (by rfl) (by rfl) (fun K_ hK_ => ?_); go_big_quiet_op; refine hK_ _ ?_; clear hK_ K_)
      (refine tree_quiet (by simp only [List.getElem?_toArray, List.getElem?_cons_succ, List.getElem?_cons_zero]; rfl) (by rfl) (by rfl) (fun K_ hK_ => ?_); go_big_quiet_op; refine hK_ _ ?_; clear hK_ K_)
      (refine tree_quiet (by simp only [List.getElem?_toArray, List.getElem?_cons_succ, List.getElem?_cons_zero]; rfl) (by rfl) (by rfl) (fun K_ hK_ => ?_); go_big_quiet_op; refine hK_ _ ?_; clear hK_ K_)
      (refine tree_quiet (by simp only [List.getElem?_toArray, List.getElem?_cons_succ, List.getElem?_cons_zero]; rfl) (by rfl) (by rfl) (fun K_ hK_ => ?_); go_big_quiet_op; refine hK_ _ ?_; clear hK_ K_)
      (refine tree_quiet (by simp only [List.getElem?_toArray, List.getElem?_cons_succ, List.getElem?_cons_zero]; rfl) (by rfl) (by rfl) (fun K_ hK_ => ?_); go_big_quiet_op; refine hK_ _ ?_; clear hK_ K_)
      (refine tree_quiet (by simp only [List.getElem?_toArray, List.getElem?_cons_succ, List.getElem?_cons_zero]; rfl) (by rfl) (by rfl) (fun K_ hK_ => ?_); go_big_quiet_op; refine hK_ _ ?_; clear hK_ K_)
      (refine tree_quiet (by simp only [List.getElem?_toArray, List.getElem?_cons_succ, List.getElem?_cons_zero]; rfl) (by rfl) (by rfl) (fun K_ hK_ => ?_); go_big_quiet_op; refine hK_ _ ?_; clear hK_ K_)
      (refine tree_quiet (by simp only [List.getElem?_toArray, List.getElem?_cons_succ, List.getElem?_cons_zero]; rfl) (by rfl) (by rfl) (fun K_ hK_ => ?_); go_big_quiet_op; refine hK_ _ ?_; clear hK_ K_)
      (refine tree_quiet (by simp only [List.getElem?_toArray, List.getElem?_cons_succ, List.getElem?_cons_zero]; rfl) (by rfl) (by rfl) (fun K_ hK_ => ?_); go_big_quiet_op; refine hK_ _ ?_; clear hK_ K_)
      (refine tree_run (by simp only [List.getElem?_toArray, List.getElem?_cons_succ, List.getElem?_cons_zero]; rfl) (by rfl) (by rfl) (fun K_ hK_ => ?_); have HK_ := Lib.hid hK_; clear hK_; go_wp2_with (first | (go_at_call 12; (with_reducible refine (HS1.out _ (by exact blw) _ _).mono ?_); rintro e w6 ⟨rfl, hb6⟩) | (go_at_call 12; (with_reducible refine (HS2.out _ (by exact blw) _ _).mono ?_); rintro e w7 ⟨rfl, hb7⟩)); refine HK_.out _ _ (wld_ofA) ?_; clear HK_)
      refine tree_move (by repeat (first | with_reducible exact same_below (brefl _) | with_reducible exact same_below (bdrew1 (brefl _)) | with_reducible assumption | with_reducible refine same_drew ?_ | (with_reducible refine same_set ?_ (by first | (left; simp; done) | (right; simp; done) | (right; simp; omega)) _) | with_reducible refine same_then ?_ (by assumption) | with_reducible refine same_alloc ?_ _ | exact same_below (brefl _) | exact same_realloc (by simp) | exact same_below (bdrew1 (brefl _)) | assumption | refine same_drew ?_ | refine same_then ?_ (by assumption) | refine same_alloc ?_ _ | (refine same_set ?_ (by first | (left; simp; done) | (right; simp; done) | (right; simp; omega)) _))) ?_; clear hG_; intro hG_
      (refine tree_quiet (by simp only [List.getElem?_toArray, List.getElem?_cons_succ, List.getElem?_cons_zero]; rfl) (by rfl) (by rfl) (fun K_ hK_ => ?_); go_big_quiet_op; refine hK_ _ ?_; clear hK_ K_)
      (refine tree_quiet (by simp only [List.getElem?_toArray, List.getElem?_cons_succ, List.getElem?_cons_zero]; rfl) (by rfl) (by rfl) (fun K_ hK_ => ?_); go_big_quiet_op; refine hK_ _ ?_; clear hK_ K_)
      refine tree_nil ?_
      clear hG_
      have hb7' : Below w5.heap.size w5 w7 := by exact blw
      have HB7 := Lib.hid (HB5.out.trans (hb7'.mono hz5))
      have HM7 := Lib.hid (HM5H.out.below hb7')
      clear hb6 hb7 hb7' HS1 HS2 HM5H HM5 HH5
      go_wp2_with fail
      go_loopw [82] (fun i wr => ∃ j : Nat, j ≤ m ∧ i = .int .i64 (j : Nat) ∧ Below w7.heap.size w7 wr) (fun i _ => m - (intOf i).toNat)
      case atStart => exact ⟨0, Nat.zero_le _, rfl, Below.refl _ _⟩
      case round =>
        obtain ⟨j, hj, rfl, hb⟩ := hrel
        have HB8 := Lib.hid hb
        have hz8 := hb.size
        clear hb
        by_cases hlt : j < m
        · obtain ⟨gi, oi, x, rfl, hgi, hx, hci⟩ := iv_at ((HI.out.below HB7.out).below HB8.out) (k := j) (by rw [HIL.out]; exact hlt)
          obtain ⟨x0, hx0⟩ : ∃ x0, ids[0]? = some x0 := ⟨_, List.getElem?_eq_getElem (by rw [HIL.out]; omega)⟩
          obtain ⟨ga, oa, p1, ha1, hga, hp1, hc1, hc2⟩ := gv_at (HM7.out.below HB8.out) (k := i + j) (by rw [HRL.out]; omega)
          obtain ⟨gb, ob, p2, ha2, hgb, hp2, hc3, hc4⟩ := gv_at (HM7.out.below HB8.out) (k := i) (by rw [HRL.out]; omega)
          rw [ha1] at ha2
          cases ha2
          have e1 := HMID.out j x hx
          have e2 := HMID.out 0 x0 hx0
          rw [Nat.add_zero] at e2
          rw [e1] at hp1
          rw [e2] at hp2
          cases hp1
          cases hp2
          simp only at hc1 hc2 hc3 hc4
          generalize insC l i = C at *
          subst ha1
          clear e1 e2 hx hx0
          go_wp2_with fail
          refine wp_region_tree (.step 0 (.step 1 (.step 2 (.step 3 (.step 4 (.step 5 (.step 6 (.step 7 (.step 8 (.step 9 (.step 10 (.step 11 (.step 12 (.step 13 (.step 14 (.step 15 (.step 16 (.step 17 (.step 18 (.step 19 (.step 20 (.step 21 (.step 22 (.step 23 .nil)))))))))))))))))))))))) (by kernel_rfl) (by kernel_rfl) (by kernel_rfl) (by kernel_rfl) (by intro _ _ d_ _ _ h_; cases d_ <;> first | exact h_ | (dsimp +zetaDelta only at h_ ⊢; exact h_)) (fun w' => ∃ p : Wld wr [], w' = p.val) (wld_start _ _) ?_
          have hG_ := @wldC wr
          (refine tree_quiet (by simp only [List.getElem?_toArray, List.getElem?_cons_succ, List.getElem?_cons_zero]; rfl) (by rfl) (by rfl) (fun K_ hK_ => ?_); go_big_quiet_op; refine hK_ _ ?_; clear hK_ K_)
          (refine tree_quiet (by simp only [List.getElem?_toArray, List.getElem?_cons_succ, List.getElem?_cons_zero]; rfl) (by rfl) (by rfl) (fun K_ hK_ => ?_); go_big_quiet_op; refine hK_ _ ?_; clear hK_ K_)
          (refine tree_quiet (by simp only [List.getElem?_toArray, List.getElem?_cons_succ, List.getElem?_cons_zero]; rfl) (by rfl) (by rfl) (fun K_ hK_ => ?_); go_big_quiet_op; refine hK_ _ ?_; clear hK_ K_)
          (refine tree_quiet (by simp only [List.getElem?_toArray, List.getElem?_cons_succ, List.getElem?_cons_zero]; rfl) (by rfl) (by rfl) (fun K_ hK_ => ?_); go_big_quiet_op; refine hK_ _ ?_; clear hK_ K_)
          (refine tree_quiet (by simp only [List.getElem?_toArray, List.getElem?_cons_succ, List.getElem?_cons_zero]; rfl) (by rfl) (by rfl) (fun K_ hK_ => ?_); go_big_quiet_op; refine hK_ _ ?_; clear hK_ K_)
          (refine tree_quiet (by simp only [List.getElem?_toArray, List.getElem?_cons_succ, List.getElem?_cons_zero]; rfl) (by rfl) (by rfl) (fun K_ hK_ => ?_); go_big_quiet_op; refine hK_ _ ?_; clear hK_ K_)
          (refine tree_quiet (by simp only [List.getElem?_toArray, List.getElem?_cons_succ, List.getElem?_cons_zero]; rfl) (by rfl) (by rfl) (fun K_ hK_ => ?_); go_big_quiet_op; refine hK_ _ ?_; clear hK_ K_)
          (refine tree_quiet (by simp only [List.getElem?_toArray, List.getElem?_cons_succ, List.getElem?_cons_zero]; rfl) (by rfl) (by rfl) (fun K_ hK_ => ?_); go_big_quiet_op; refine hK_ _ ?_; clear hK_ K_)
          (refine tree_quiet (by simp only [List.getElem?_toArray, List.getElem?_cons_succ, List.getElem?_cons_zero]; rfl) (by rfl) (by rfl) (fun K_ hK_ => ?_); go_big_quiet_op; refine hK_ _ ?_; clear hK_ K_)
          (refine tree_quiet (by simp only [List.getElem?_toArray, List.getElem?_cons_succ, List.getElem?_cons_zero]; rfl) (by rfl) (by rfl) (fun K_ hK_ => ?_); go_big_quiet_op; refine hK_ _ ?_; clear hK_ K_)
          (refine tree_quiet (by simp only [List.getElem?_toArray, List.getElem?_cons_succ, List.getElem?_cons_zero]; rfl) (by rfl) (by rfl) (fun K_ hK_ => ?_); go_big_quiet_op; refine hK_ _ ?_; clear hK_ K_)
          (refine tree_quiet (by simp only [List.getElem?_toArray, List.getElem?_cons_succ, List.getElem?_cons_zero]; rfl) (by rfl) (by rfl) (fun K_ hK_ => ?_); go_big_quiet_op; refine hK_ _ ?_; clear hK_ K_)
          (refine tree_quiet (by simp only [List.getElem?_toArray, List.getElem?_cons_succ, List.getElem?_cons_zero]; rfl) (by rfl) (by rfl) (fun K_ hK_ => ?_); go_big_quiet_op; refine hK_ _ ?_; clear hK_ K_)
          (refine tree_quiet (by simp only [List.getElem?_toArray, List.getElem?_cons_succ, List.getElem?_cons_zero]; rfl) (by rfl) (by rfl) (fun K_ hK_ => ?_); go_big_quiet_op; refine hK_ _ ?_; clear hK_ K_)
          (refine tree_quiet (by simp only [List.getElem?_toArray, List.getElem?_cons_succ, List.getElem?_cons_zero]; rfl) (by rfl) (by rfl) (fun K_ hK_ => ?_); go_big_quiet_op; refine hK_ _ ?_; clear hK_ K_)
          (refine tree_quiet (by simp only [List.getElem?_toArray, List.getElem?_cons_succ, List.getElem?_cons_zero]; rfl) (by rfl) (by rfl) (fun K_ hK_ => ?_); go_big_quiet_op; refine hK_ _ ?_; clear hK_ K_)
          (refine tree_quiet (by simp only [List.getElem?_toArray, List.getElem?_cons_succ, List.getElem?_cons_zero]; rfl) (by rfl) (by rfl) (fun K_ hK_ => ?_); go_big_quiet_op; refine hK_ _ ?_; clear hK_ K_)
          (refine tree_quiet (by simp only [List.getElem?_toArray, List.getElem?_cons_succ, List.getElem?_cons_zero]; rfl) (by rfl) (by rfl) (fun K_ hK_ => ?_); go_big_quiet_op; refine hK_ _ ?_; clear hK_ K_)
          (refine tree_quiet (by simp only [List.getElem?_toArray, List.getElem?_cons_succ, List.getElem?_cons_zero]; rfl) (by rfl) (by rfl) (fun K_ hK_ => ?_); go_big_quiet_op; refine hK_ _ ?_; clear hK_ K_)
          (refine tree_quiet (by simp only [List.getElem?_toArray, List.getElem?_cons_succ, List.getElem?_cons_zero]; rfl) (by rfl) (by rfl) (fun K_ hK_ => ?_); go_big_quiet_op; refine hK_ _ ?_; clear hK_ K_)
          (refine tree_quiet (by simp only [List.getElem?_toArray, List.getElem?_cons_succ, List.getElem?_cons_zero]; rfl) (by rfl) (by rfl) (fun K_ hK_ => ?_); go_big_quiet_op; refine hK_ _ ?_; clear hK_ K_)
          (refine tree_quiet (by simp only [List.getElem?_toArray, List.getElem?_cons_succ, List.getElem?_cons_zero]; rfl) (by rfl) (by rfl) (fun K_ hK_ => ?_); go_big_quiet_op; refine hK_ _ ?_; clear hK_ K_)
          (refine tree_quiet (by simp only [List.getElem?_toArray, List.getElem?_cons_succ, List.getElem?_cons_zero]; rfl) (by rfl) (by rfl) (fun K_ hK_ => ?_); go_big_quiet_op; refine hK_ _ ?_; clear hK_ K_)
          (refine tree_quiet (by simp only [List.getElem?_toArray, List.getElem?_cons_succ, List.getElem?_cons_zero]; rfl) (by rfl) (by rfl) (fun K_ hK_ => ?_); go_big_quiet_op; refine hK_ _ ?_; clear hK_ K_)
          refine tree_nil ?_
          clear hG_
          go_wp2_with fail
          go_roundw
          case rel => exact ⟨j + 1, hlt, by go_num, HB8.out.drew⟩
          case measure => simp [intOf]; omega
        · obtain rfl : m = j := by omega
          go_wp2_with fail
          go_ret
          exact ⟨rfl, HB7.out.trans (HB8.out.mono HB7.out.size)⟩
    obtain ⟨p, rfl⟩ : ∃ p, a = some p := by
      cases a with
      | none => have := HA.out rfl; omega
      | some p => exact ⟨p, rfl⟩
    have HS1 := Lib.hid (fun W (hW : Below w5.heap.size w5 W) x y => refSameG_any a5 (some p) i x i y (R.take i) (l.take i) W (by rw [gv_take]; exact (HM5H.out.below hW).take _) (by rw [List.length_take, HRL.out]; omega) (by rw [gv_take]; exact (HH5.out.below hW).take _) (by rw [List.length_take, HL.out]; omega) (by omega) (by omega))
    rw [HT.out, decide_eq_true rfl] at HS1
    have HR2 := Lib.hid (show Has w5 a5 (gv (R.drop (i + m))) from by have := HM5H.out.advK c5 (i + m) (by rw [HRL.out]; omega); rwa [if_pos hc5] at this)
    have HL2 := Lib.hid (show Has w5 (some (p.add (i * 2))) (gv (l.drop i)) from by have := HH5.out.advK c i (by rw [HL.out]; omega); rwa [if_neg hc] at this)
    have HS2 := Lib.hid (fun W (hW : Below w5.heap.size w5 W) x y => refSameG_any a5 (some (p.add (i * 2))) (n + m - (i + m)) x (n - i) y (R.drop (i + m)) (l.drop i) W (HR2.out.below hW) (by rw [List.length_drop, HRL.out]) (HL2.out.below hW) (by rw [List.length_drop, HL.out]) (by omega) (by omega))
    rw [HD.out, decide_eq_true rfl] at HS2
    clear HR2 HL2
    refine wp_region_tree (.step 0 (.step 1 (.step 2 (.step 3 (.step 4 (.step 5 (.step 6 (.step 7 (.step 8 (.step 9 (.step 10 (.step 11 (.step 12 (.step 13 (.step 14 (.step 15 (.narrow (.step 16 (.step 17 (.step 18 (.step 19 (.step 20 (.step 21 (.step 22 (.step 23 (.step 24 (.step 25 (.step 26 (.step 27 (.step 28 (.narrow (.step 29 (.step 30 .nil))))))))))))))))))))))))))))))))) (by kernel_rfl) (by kernel_rfl) (by kernel_rfl) (by kernel_rfl) (by intro _ _ d_ _ _ h_; cases d_ <;> first | exact h_ | (dsimp +zetaDelta only at h_ ⊢; exact h_)) (fun w' => ∃ p : Wld w5 [], w' = p.val) (wld_start _ _) ?_
    have hG_ := @wldC w5
    (refine tree_quiet (by simp only [List.getElem?_toArray, List.getElem?_cons_succ, List.getElem?_cons_zero]; rfl) (by rfl) (by rfl) (fun K_ hK_ => ?_); go_big_quiet_op; refine hK_ _ ?_; clear hK_ K_)
    (refine tree_quiet (by simp only [List.getElem?_toArray, List.getElem?_cons_succ, List.getElem?_cons_zero]; rfl) (by rfl) (by rfl) (fun K_ hK_ => ?_); go_big_quiet_op; refine hK_ _ ?_; clear hK_ K_)
    (refine tree_quiet (by simp only [List.getElem?_toArray, List.getElem?_cons_succ, List.getElem?_cons_zero]; rfl) (by rfl) (by rfl) (fun K_ hK_ => ?_); go_big_quiet_op; refine hK_ _ ?_; clear hK_ K_)
    (refine tree_quiet (by simp only [List.getElem?_toArray, List.getElem?_cons_succ, List.getElem?_cons_zero]; rfl) (by rfl) (by rfl) (fun K_ hK_ => ?_); go_big_quiet_op; refine hK_ _ ?_; clear hK_ K_)
    (refine tree_quiet (by simp only [List.getElem?_toArray, List.getElem?_cons_succ, List.getElem?_cons_zero]; rfl) (by rfl) (by rfl) (fun K_ hK_ => ?_); go_big_quiet_op; refine hK_ _ ?_; clear hK_ K_)
    (refine tree_quiet (by simp only [List.getElem?_toArray, List.getElem?_cons_succ, List.getElem?_cons_zero]; rfl) (by rfl) (by rfl) (fun K_ hK_ => ?_); go_big_quiet_op; refine hK_ _ ?_; clear hK_ K_)
    (refine tree_quiet (by simp only [List.getElem?_toArray, List.getElem?_cons_succ, List.getElem?_cons_zero]; rfl) (by rfl) (by rfl) (fun K_ hK_ => ?_); go_big_quiet_op; refine hK_ _ ?_; clear hK_ K_)
    (refine tree_quiet (by simp only [List.getElem?_toArray, List.getElem?_cons_succ, List.getElem?_cons_zero]; rfl) (by rfl) (by rfl) (fun K_ hK_ => ?_); go_big_quiet_op; refine hK_ _ ?_; clear hK_ K_)
    (refine tree_quiet (by simp only [List.getElem?_toArray, List.getElem?_cons_succ, List.getElem?_cons_zero]; rfl) (by rfl) (by rfl) (fun K_ hK_ => ?_); go_big_quiet_op; refine hK_ _ ?_; clear hK_ K_)
    (refine tree_quiet (by simp only [List.getElem?_toArray, List.getElem?_cons_succ, List.getElem?_cons_zero]; rfl) (by rfl) (by rfl) (fun K_ hK_ => ?_); go_big_quiet_op; refine hK_ _ ?_; clear hK_ K_)
    (refine tree_quiet (by simp only [List.getElem?_toArray, List.getElem?_cons_succ, List.getElem?_cons_zero]; rfl) (by rfl) (by rfl) (fun K_ hK_ => ?_); go_big_quiet_op; refine hK_ _ ?_; clear hK_ K_)
    (refine tree_quiet (by simp only [List.getElem?_toArray, List.getElem?_cons_succ, List.getElem?_cons_zero]; rfl) (by rfl) (by rfl) (fun K_ hK_ => ?_); go_big_quiet_op; refine hK_ _ ?_; clear hK_ K_)
    (refine tree_quiet (by simp only [List.getElem?_toArray, List.getElem?_cons_succ, List.getElem?_cons_zero]; rfl) (by rfl) (by rfl) (fun K_ hK_ => ?_); go_big_quiet_op; refine hK_ _ ?_; clear hK_ K_)
    (refine tree_quiet (by simp only [List.getElem?_toArray, List.getElem?_cons_succ, List.getElem?_cons_zero]; rfl) (by rfl) (by rfl) (fun K_ hK_ => ?_); go_big_quiet_op; refine hK_ _ ?_; clear hK_ K_)
    (refine tree_quiet (by simp only [List.getElem?_toArray, List.getElem?_cons_succ, List.getElem?_cons_zero]; rfl) (by rfl) (by rfl) (fun K_ hK_ => ?_); go_big_quiet_op; refine hK_ _ ?_; clear hK_ K_)
    (refine tree_run (by simp only [List.getElem?_toArray, List.getElem?_cons_succ, List.getElem?_cons_zero]; rfl) (by rfl) (by rfl) (fun K_ hK_ => ?_); have HK_ := Lib.hid hK_; clear hK_; go_wp2_with (first | (go_at_call 12; (with_reducible refine (HS1.out _ (by exact blw) _ _).mono ?_); rintro e w6 ⟨rfl, hb6⟩) | (go_at_call 12; (with_reducible refine (HS2.out _ (by exact blw) _ _).mono ?_); rintro e w7 ⟨rfl, hb7⟩)); refine HK_.out _ _ (wld_ofA) ?_; clear HK_)
    refine tree_move (by repeat (first | with_reducible exact same_below (brefl _) | with_reducible exact same_below (bdrew1 (brefl _)) | with_reducible assumption | with_reducible refine same_drew ?_ | (with_reducible refine same_set ?_ (by first | (left; simp; done) | (right; simp; done) | (right; simp; omega)) _) | with_reducible refine same_then ?_ (by assumption) | with_reducible refine same_alloc ?_ _ | exact same_below (brefl _) | exact same_realloc (by simp) | exact same_below (bdrew1 (brefl _)) | assumption | refine same_drew ?_ | refine same_then ?_ (by assumption) | refine same_alloc ?_ _ | (refine same_set ?_ (by first | (left; simp; done) | (right; simp; done) | (right; simp; omega)) _))) ?_; clear hG_; intro hG_
    (refine tree_quiet (by simp only [List.getElem?_toArray, List.getElem?_cons_succ, List.getElem?_cons_zero]; rfl) (by rfl) (by rfl) (fun K_ hK_ => ?_); go_big_quiet_op; refine hK_ _ ?_; clear hK_ K_)
    (refine tree_quiet (by simp only [List.getElem?_toArray, List.getElem?_cons_succ, List.getElem?_cons_zero]; rfl) (by rfl) (by rfl) (fun K_ hK_ => ?_); go_big_quiet_op; refine hK_ _ ?_; clear hK_ K_)
    (refine tree_quiet (by simp only [List.getElem?_toArray, List.getElem?_cons_succ, List.getElem?_cons_zero]; rfl) (by rfl) (by rfl) (fun K_ hK_ => ?_); go_big_quiet_op; refine hK_ _ ?_; clear hK_ K_)
    (refine tree_quiet (by simp only [List.getElem?_toArray, List.getElem?_cons_succ, List.getElem?_cons_zero]; rfl) (by rfl) (by rfl) (fun K_ hK_ => ?_); go_big_quiet_op; refine hK_ _ ?_; clear hK_ K_)
    (refine tree_quiet (by simp only [List.getElem?_toArray, List.getElem?_cons_succ, List.getElem?_cons_zero]; rfl) (by rfl) (by rfl) (fun K_ hK_ => ?_); go_big_quiet_op; refine hK_ _ ?_; clear hK_ K_)
    (refine tree_quiet (by simp only [List.getElem?_toArray, List.getElem?_cons_succ, List.getElem?_cons_zero]; rfl) (by rfl) (by rfl) (fun K_ hK_ => ?_); go_big_quiet_op; refine hK_ _ ?_; clear hK_ K_)
    (refine tree_quiet (by simp only [List.getElem?_toArray, List.getElem?_cons_succ, List.getElem?_cons_zero]; rfl) (by rfl) (by rfl) (fun K_ hK_ => ?_); go_big_quiet_op; refine hK_ _ ?_; clear hK_ K_)
    (refine tree_quiet (by simp only [List.getElem?_toArray, List.getElem?_cons_succ, List.getElem?_cons_zero]; rfl) (by rfl) (by rfl) (fun K_ hK_ => ?_); go_big_quiet_op; refine hK_ _ ?_; clear hK_ K_)
    (refine tree_quiet (by simp only [List.getElem?_toArray, List.getElem?_cons_succ, List.getElem?_cons_zero]; rfl) (by rfl) (by rfl) (fun K_ hK_ => ?_); go_big_quiet_op; refine hK_ _ ?_; clear hK_ K_)
    (refine tree_quiet (by simp only [List.getElem?_toArray, List.getElem?_cons_succ, List.getElem?_cons_zero]; rfl) (by rfl) (by rfl) (fun K_ hK_ => ?_); go_big_quiet_op; refine hK_ _ ?_; clear hK_ K_)
    (refine tree_quiet (by simp only [List.getElem?_toArray, List.getElem?_cons_succ, List.getElem?_cons_zero]; rfl) (by rfl) (by rfl) (fun K_ hK_ => ?_); go_big_quiet_op; refine hK_ _ ?_; clear hK_ K_)
    (refine tree_quiet (by simp only [List.getElem?_toArray, List.getElem?_cons_succ, List.getElem?_cons_zero]; rfl) (by rfl) (by rfl) (fun K_ hK_ => ?_); go_big_quiet_op; refine hK_ _ ?_; clear hK_ K_)
    (refine tree_run (by simp only [List.getElem?_toArray, List.getElem?_cons_succ, List.getElem?_cons_zero]; rfl) (by rfl) (by rfl) (fun K_ hK_ => ?_); have HK_ := Lib.hid hK_; clear hK_; go_wp2_with (first | (go_at_call 12; (with_reducible refine (HS1.out _ (by exact blw) _ _).mono ?_); rintro e w6 ⟨rfl, hb6⟩) | (go_at_call 12; (with_reducible refine (HS2.out _ (by exact blw) _ _).mono ?_); rintro e w7 ⟨rfl, hb7⟩)); refine HK_.out _ _ (wld_ofA) ?_; clear HK_)
    refine tree_move (by repeat (first | with_reducible exact same_below (brefl _) | with_reducible exact same_below (bdrew1 (brefl _)) | with_reducible assumption | with_reducible refine same_drew ?_ | (with_reducible refine same_set ?_ (by first | (left; simp; done) | (right; simp; done) | (right; simp; omega)) _) | with_reducible refine same_then ?_ (by assumption) | with_reducible refine same_alloc ?_ _ | exact same_below (brefl _) | exact same_realloc (by simp) | exact same_below (bdrew1 (brefl _)) | assumption | refine same_drew ?_ | refine same_then ?_ (by assumption) | refine same_alloc ?_ _ | (refine same_set ?_ (by first | (left; simp; done) | (right; simp; done) | (right; simp; omega)) _))) ?_; clear hG_; intro hG_
    (refine tree_quiet (by simp only [List.getElem?_toArray, List.getElem?_cons_succ, List.getElem?_cons_zero]; rfl) (by rfl) (by rfl) (fun K_ hK_ => ?_); go_big_quiet_op; refine hK_ _ ?_; clear hK_ K_)
    (refine tree_quiet (by simp only [List.getElem?_toArray, List.getElem?_cons_succ, List.getElem?_cons_zero]; rfl) (by rfl) (by rfl) (fun K_ hK_ => ?_); go_big_quiet_op; refine hK_ _ ?_; clear hK_ K_)
    refine tree_nil ?_
    clear hG_
    have hb7' : Below w5.heap.size w5 w7 := by exact blw
    have HB7 := Lib.hid (HB5.out.trans (hb7'.mono hz5))
    have HM7 := Lib.hid (HM5H.out.below hb7')
    clear hb6 hb7 hb7' HS1 HS2 HM5H HM5 HH5
    go_wp2_with fail
    go_loopw [82] (fun i wr => ∃ j : Nat, j ≤ m ∧ i = .int .i64 (j : Nat) ∧ Below w7.heap.size w7 wr) (fun i _ => m - (intOf i).toNat)
    case atStart => exact ⟨0, Nat.zero_le _, rfl, Below.refl _ _⟩
    case round =>
      obtain ⟨j, hj, rfl, hb⟩ := hrel
      have HB8 := Lib.hid hb
      have hz8 := hb.size
      clear hb
      by_cases hlt : j < m
      · obtain ⟨gi, oi, x, rfl, hgi, hx, hci⟩ := iv_at ((HI.out.below HB7.out).below HB8.out) (k := j) (by rw [HIL.out]; exact hlt)
        obtain ⟨x0, hx0⟩ : ∃ x0, ids[0]? = some x0 := ⟨_, List.getElem?_eq_getElem (by rw [HIL.out]; omega)⟩
        obtain ⟨ga, oa, p1, ha1, hga, hp1, hc1, hc2⟩ := gv_at (HM7.out.below HB8.out) (k := i + j) (by rw [HRL.out]; omega)
        obtain ⟨gb, ob, p2, ha2, hgb, hp2, hc3, hc4⟩ := gv_at (HM7.out.below HB8.out) (k := i) (by rw [HRL.out]; omega)
        rw [ha1] at ha2
        cases ha2
        have e1 := HMID.out j x hx
        have e2 := HMID.out 0 x0 hx0
        rw [Nat.add_zero] at e2
        rw [e1] at hp1
        rw [e2] at hp2
        cases hp1
        cases hp2
        simp only at hc1 hc2 hc3 hc4
        generalize insC l i = C at *
        subst ha1
        clear e1 e2 hx hx0
        go_wp2_with fail
        refine wp_region_tree (.step 0 (.step 1 (.step 2 (.step 3 (.step 4 (.step 5 (.step 6 (.step 7 (.step 8 (.step 9 (.step 10 (.step 11 (.step 12 (.step 13 (.step 14 (.step 15 (.step 16 (.step 17 (.step 18 (.step 19 (.step 20 (.step 21 (.step 22 (.step 23 .nil)))))))))))))))))))))))) (by kernel_rfl) (by kernel_rfl) (by kernel_rfl) (by kernel_rfl) (by intro _ _ d_ _ _ h_; cases d_ <;> first | exact h_ | (dsimp +zetaDelta only at h_ ⊢; exact h_)) (fun w' => ∃ p : Wld wr [], w' = p.val) (wld_start _ _) ?_
        have hG_ := @wldC wr
        (refine tree_quiet (by simp only [List.getElem?_toArray, List.getElem?_cons_succ, List.getElem?_cons_zero]; rfl) (by rfl) (by rfl) (fun K_ hK_ => ?_); go_big_quiet_op; refine hK_ _ ?_; clear hK_ K_)
        (refine tree_quiet (by simp only [List.getElem?_toArray, List.getElem?_cons_succ, List.getElem?_cons_zero]; rfl) (by rfl) (by rfl) (fun K_ hK_ => ?_); go_big_quiet_op; refine hK_ _ ?_; clear hK_ K_)
        (refine tree_quiet (by simp only [List.getElem?_toArray, List.getElem?_cons_succ, List.getElem?_cons_zero]; rfl) (by rfl) (by rfl) (fun K_ hK_ => ?_); go_big_quiet_op; refine hK_ _ ?_; clear hK_ K_)
        (refine tree_quiet (by simp only [List.getElem?_toArray, List.getElem?_cons_succ, List.getElem?_cons_zero]; rfl) (by rfl) (by rfl) (fun K_ hK_ => ?_); go_big_quiet_op; refine hK_ _ ?_; clear hK_ K_)
        (refine tree_quiet (by simp only [List.getElem?_toArray, List.getElem?_cons_succ, List.getElem?_cons_zero]; rfl) (by rfl) (by rfl) (fun K_ hK_ => ?_); go_big_quiet_op; refine hK_ _ ?_; clear hK_ K_)
        (refine tree_quiet (by simp only [List.getElem?_toArray, List.getElem?_cons_succ, List.getElem?_cons_zero]; rfl) (by rfl) (by rfl) (fun K_ hK_ => ?_); go_big_quiet_op; refine hK_ _ ?_; clear hK_ K_)
        (refine tree_quiet (by simp only [List.getElem?_toArray, List.getElem?_cons_succ, List.getElem?_cons_zero]; rfl) (by rfl) (by rfl) (fun K_ hK_ => ?_); go_big_quiet_op; refine hK_ _ ?_; clear hK_ K_)
        (refine tree_quiet (by simp only [List.getElem?_toArray, List.getElem?_cons_succ, List.getElem?_cons_zero]; rfl) (by rfl) (by rfl) (fun K_ hK_ => ?_); go_big_quiet_op; refine hK_ _ ?_; clear hK_ K_)
        (refine tree_quiet (by simp only [List.getElem?_toArray, List.getElem?_cons_succ, List.getElem?_cons_zero]; rfl) (by rfl) (by rfl) (fun K_ hK_ => ?_); go_big_quiet_op; refine hK_ _ ?_; clear hK_ K_)
        (refine tree_quiet (by simp only [List.getElem?_toArray, List.getElem?_cons_succ, List.getElem?_cons_zero]; rfl) (by rfl) (by rfl) (fun K_ hK_ => ?_); go_big_quiet_op; refine hK_ _ ?_; clear hK_ K_)
        (refine tree_quiet (by simp only [List.getElem?_toArray, List.getElem?_cons_succ, List.getElem?_cons_zero]; rfl) (by rfl) (by rfl) (fun K_ hK_ => ?_); go_big_quiet_op; refine hK_ _ ?_; clear hK_ K_)
        (refine tree_quiet (by simp only [List.getElem?_toArray, List.getElem?_cons_succ, List.getElem?_cons_zero]; rfl) (by rfl) (by rfl) (fun K_ hK_ => ?_); go_big_quiet_op; refine hK_ _ ?_; clear hK_ K_)
        (refine tree_quiet (by simp only [List.getElem?_toArray, List.getElem?_cons_succ, List.getElem?_cons_zero]; rfl) (by rfl) (by rfl) (fun K_ hK_ => ?_); go_big_quiet_op; refine hK_ _ ?_; clear hK_ K_)
        (refine tree_quiet (by simp only [List.getElem?_toArray, List.getElem?_cons_succ, List.getElem?_cons_zero]; rfl) (by rfl) (by rfl) (fun K_ hK_ => ?_); go_big_quiet_op; refine hK_ _ ?_; clear hK_ K_)
        (refine tree_quiet (by simp only [List.getElem?_toArray, List.getElem?_cons_succ, List.getElem?_cons_zero]; rfl) (by rfl) (by rfl) (fun K_ hK_ => ?_); go_big_quiet_op; refine hK_ _ ?_; clear hK_ K_)
        (refine tree_quiet (by simp only [List.getElem?_toArray, List.getElem?_cons_succ, List.getElem?_cons_zero]; rfl) (by rfl) (by rfl) (fun K_ hK_ => ?_); go_big_quiet_op; refine hK_ _ ?_; clear hK_ K_)
        (refine tree_quiet (by simp only [List.getElem?_toArray, List.getElem?_cons_succ, List.getElem?_cons_zero]; rfl) (by rfl) (by rfl) (fun K_ hK_ => ?_); go_big_quiet_op; refine hK_ _ ?_; clear hK_ K_)
        (refine tree_quiet (by simp only [List.getElem?_toArray, List.getElem?_cons_succ, List.getElem?_cons_zero]; rfl) (by rfl) (by rfl) (fun K_ hK_ => ?_); go_big_quiet_op; refine hK_ _ ?_; clear hK_ K_)
        (refine tree_quiet (by simp only [List.getElem?_toArray, List.getElem?_cons_succ, List.getElem?_cons_zero]; rfl) (by rfl) (by rfl) (fun K_ hK_ => ?_); go_big_quiet_op; refine hK_ _ ?_; clear hK_ K_)
        (refine tree_quiet (by simp only [List.getElem?_toArray, List.getElem?_cons_succ, List.getElem?_cons_zero]; rfl) (by rfl) (by rfl) (fun K_ hK_ => ?_); go_big_quiet_op; refine hK_ _ ?_; clear hK_ K_)
        (refine tree_quiet (by simp only [List.getElem?_toArray, List.getElem?_cons_succ, List.getElem?_cons_zero]; rfl) (by rfl) (by rfl) (fun K_ hK_ => ?_); go_big_quiet_op; refine hK_ _ ?_; clear hK_ K_)
        (refine tree_quiet (by simp only [List.getElem?_toArray, List.getElem?_cons_succ, List.getElem?_cons_zero]; rfl) (by rfl) (by rfl) (fun K_ hK_ => ?_); go_big_quiet_op; refine hK_ _ ?_; clear hK_ K_)
        (refine tree_quiet (by simp only [List.getElem?_toArray, List.getElem?_cons_succ, List.getElem?_cons_zero]; rfl) (by rfl) (by rfl) (fun K_ hK_ => ?_); go_big_quiet_op; refine hK_ _ ?_; clear hK_ K_)
        (refine tree_quiet (by simp only [List.getElem?_toArray, List.getElem?_cons_succ, List.getElem?_cons_zero]; rfl) (by rfl) (by rfl) (fun K_ hK_ => ?_); go_big_quiet_op; refine hK_ _ ?_; clear hK_ K_)
        refine tree_nil ?_
        clear hG_
        go_wp2_with fail
        go_roundw
        case rel => exact ⟨j + 1, hlt, by go_num, HB8.out.drew⟩
        case measure => simp [intOf]; omega
      · obtain rfl : m = j := by omega
        go_wp2_with fail
        go_ret
        exact ⟨rfl, HB7.out.trans (HB8.out.mono HB7.out.size)⟩
  obtain ⟨g5, rfl⟩ : ∃ g5, a5 = some ⟨g5, 0, none⟩ := by
    rcases HM5.out.2 with ⟨he, _⟩ | ⟨g5, _, _, he, _⟩
    · injection he with e1 e2 e3; omega
    · injection he with e1 e2 e3; exact ⟨g5, e1⟩
  by_cases hc : c = i
  ·
    have HS1 := Lib.hid (fun W (hW : Below w5.heap.size w5 W) x y => refSameG_any (some ⟨g5, 0, none⟩) a i x i y (R.take i) (l.take i) W (by rw [gv_take]; exact (HM5H.out.below hW).take _) (by rw [List.length_take, HRL.out]; omega) (by rw [gv_take]; exact (HH5.out.below hW).take _) (by rw [List.length_take, HL.out]; omega) (by omega) (by omega))
    rw [HT.out, decide_eq_true rfl] at HS1
    have HR2 := Lib.hid (show Has w5 (some ⟨g5, (i + m) * 2, none⟩) (gv (R.drop (i + m))) from by have := HM5H.out.advK c5 (i + m) (by rw [HRL.out]; omega); rw [if_neg hc5] at this; simpa [Addr.add_lit] using this)
    have HL2 := Lib.hid (show Has w5 a (gv (l.drop i)) from by have := HH5.out.advK c i (by rw [HL.out]; omega); rwa [if_pos hc] at this)
    have HS2 := Lib.hid (fun W (hW : Below w5.heap.size w5 W) x y => refSameG_any (some ⟨g5, (i + m) * 2, none⟩) a (n + m - (i + m)) x (n - i) y (R.drop (i + m)) (l.drop i) W (HR2.out.below hW) (by rw [List.length_drop, HRL.out]) (HL2.out.below hW) (by rw [List.length_drop, HL.out]) (by omega) (by omega))
    rw [HD.out, decide_eq_true rfl] at HS2
    clear HR2 HL2
    refine wp_region_tree (.step 0 (.step 1 (.step 2 (.step 3 (.step 4 (.step 5 (.step 6 (.step 7 (.step 8 (.step 9 (.step 10 (.step 11 (.step 12 (.step 13 (.step 14 (.step 15 (.narrow (.step 16 (.step 17 (.step 18 (.step 19 (.step 20 (.step 21 (.step 22 (.step 23 (.step 24 (.step 25 (.step 26 (.step 27 (.step 28 (.narrow (.step 29 (.step 30 .nil))))))))))))))))))))))))))))))))) (by kernel_rfl) (by kernel_rfl) (by kernel_rfl) (by kernel_rfl) (by intro _ _ d_ _ _ h_; cases d_ <;> first | exact h_ | (dsimp +zetaDelta only at h_ ⊢; exact h_)) (fun w' => ∃ p : Wld w5 [], w' = p.val) (wld_start _ _) ?_
    have hG_ := @wldC w5
    (refine tree_quiet (by simp only [List.getElem?_toArray, List.getElem?_cons_succ, List.getElem?_cons_zero]; rfl) (by rfl) (by rfl) (fun K_ hK_ => ?_); go_big_quiet_op; refine hK_ _ ?_; clear hK_ K_)
    (refine tree_quiet (by simp only [List.getElem?_toArray, List.getElem?_cons_succ, List.getElem?_cons_zero]; rfl) (by rfl) (by rfl) (fun K_ hK_ => ?_); go_big_quiet_op; refine hK_ _ ?_; clear hK_ K_)
    (refine tree_quiet (by simp only [List.getElem?_toArray, List.getElem?_cons_succ, List.getElem?_cons_zero]; rfl) (by rfl) (by rfl) (fun K_ hK_ => ?_); go_big_quiet_op; refine hK_ _ ?_; clear hK_ K_)
    (refine tree_quiet (by simp only [List.getElem?_toArray, List.getElem?_cons_succ, List.getElem?_cons_zero]; rfl) (by rfl) (by rfl) (fun K_ hK_ => ?_); go_big_quiet_op; refine hK_ _ ?_; clear hK_ K_)
    (refine tree_quiet (by simp only [List.getElem?_toArray, List.getElem?_cons_succ, List.getElem?_cons_zero]; rfl) (by rfl) (by rfl) (fun K_ hK_ => ?_); go_big_quiet_op; refine hK_ _ ?_; clear hK_ K_)
    (refine tree_quiet (by simp only [List.getElem?_toArray, List.getElem?_cons_succ, List.getElem?_cons_zero]; rfl) (by rfl) (by rfl) (fun K_ hK_ => ?_); go_big_quiet_op; refine hK_ _ ?_; clear hK_ K_)
    (refine tree_quiet (by simp only [List.getElem?_toArray, List.getElem?_cons_succ, List.getElem?_cons_zero]; rfl) (by rfl) (by rfl) (fun K_ hK_ => ?_); go_big_quiet_op; refine hK_ _ ?_; clear hK_ K_)
    (refine tree_quiet (by simp only [List.getElem?_toArray, List.getElem?_cons_succ, List.getElem?_cons_zero]; rfl) (by rfl) (by rfl) (fun K_ hK_ => ?_); go_big_quiet_op; refine hK_ _ ?_; clear hK_ K_)
    (refine tree_quiet (by simp only [List.getElem?_toArray, List.getElem?_cons_succ, List.getElem?_cons_zero]; rfl) (by rfl) (by rfl) (fun K_ hK_ => ?_); go_big_quiet_op; refine hK_ _ ?_; clear hK_ K_)
    (refine tree_quiet (by simp only [List.getElem?_toArray, List.getElem?_cons_succ, List.getElem?_cons_zero]; rfl) (by rfl) (by rfl) (fun K_ hK_ => ?_); go_big_quiet_op; refine hK_ _ ?_; clear hK_ K_)
    (refine tree_quiet (by simp only [List.getElem?_toArray, List.getElem?_cons_succ, List.getElem?_cons_zero]; rfl) (by rfl) (by rfl) (fun K_ hK_ => ?_); go_big_quiet_op; refine hK_ _ ?_; clear hK_ K_)
    (refine tree_quiet (by simp only [List.getElem?_toArray, List.getElem?_cons_succ, List.getElem?_cons_zero]; rfl) (by rfl) (by rfl) (fun K_ hK_ => ?_); go_big_quiet_op; refine hK_ _ ?_; clear hK_ K_)
    (refine tree_quiet (by simp only [List.getElem?_toArray, List.getElem?_cons_succ, List.getElem?_cons_zero]; rfl) (by rfl) (by rfl) (fun K_ hK_ => ?_); go_big_quiet_op; refine hK_ _ ?_; clear hK_ K_)
    (refine tree_quiet (by simp only [List.getElem?_toArray, List.getElem?_cons_succ, List.getElem?_cons_zero]; rfl) (by rfl) (by rfl) (fun K_ hK_ => ?_); go_big_quiet_op; refine hK_ _ ?_; clear hK_ K_)
    (refine tree_quiet (by simp only [List.getElem?_toArray, List.getElem?_cons_succ, List.getElem?_cons_zero]; rfl) (by rfl) (by rfl) (fun K_ hK_ => ?_); go_big_quiet_op; refine hK_ _ ?_; clear hK_ K_)
    (refine tree_run (by simp only [List.getElem?_toArray, List.getElem?_cons_succ, List.getElem?_cons_zero]; rfl) (by rfl) (by rfl) (fun K_ hK_ => ?_); have HK_ := Lib.hid hK_; clear hK_; go_wp2_with (first | (go_at_call 12; (with_reducible refine (HS1.out _ (by exact blw) _ _).mono ?_); rintro e w6 ⟨rfl, hb6⟩) | (go_at_call 12; (with_reducible refine (HS2.out _ (by exact blw) _ _).mono ?_); rintro e w7 ⟨rfl, hb7⟩)); refine HK_.out _ _ (wld_ofA) ?_; clear HK_)
    refine tree_move (by repeat (first | with_reducible exact same_below (brefl _) | with_reducible exact same_below (bdrew1 (brefl _)) | with_reducible assumption | with_reducible refine same_drew ?_ | (with_reducible refine same_set ?_ (by first | (left; simp; done) | (right; simp; done) | (right; simp; omega)) _) | with_reducible refine same_then ?_ (by assumption) | with_reducible refine same_alloc ?_ _ | exact same_below (brefl _) | exact same_realloc (by simp) | exact same_below (bdrew1 (brefl _)) | assumption | refine same_drew ?_ | refine same_then ?_ (by assumption) | refine same_alloc ?_ _ | (refine same_set ?_ (by first | (left; simp; done) | (right; simp; done) | (right; simp; omega)) _))) ?_; clear hG_; intro hG_
    (refine tree_quiet (by simp only [List.getElem?_toArray, List.getElem?_cons_succ, List.getElem?_cons_zero]; rfl) (by rfl) (by rfl) (fun K_ hK_ => ?_); go_big_quiet_op; refine hK_ _ ?_; clear hK_ K_)
    (refine tree_quiet (by simp only [List.getElem?_toArray, List.getElem?_cons_succ, List.getElem?_cons_zero]; rfl) (by rfl) (by rfl) (fun K_ hK_ => ?_); go_big_quiet_op; refine hK_ _ ?_; clear hK_ K_)
    (refine tree_quiet (by simp only [List.getElem?_toArray, List.getElem?_cons_succ, List.getElem?_cons_zero]; rfl) (by rfl) (by rfl) (fun K_ hK_ => ?_); go_big_quiet_op; refine hK_ _ ?_; clear hK_ K_)
    (refine tree_quiet (by simp only [List.getElem?_toArray, List.getElem?_cons_succ, List.getElem?_cons_zero]; rfl) (by rfl) (by rfl) (fun K_ hK_ => ?_); go_big_quiet_op; refine hK_ _ ?_; clear hK_ K_)
    (refine tree_quiet (by simp only [List.getElem?_toArray, List.getElem?_cons_succ, List.getElem?_cons_zero]; rfl) (by rfl) (by rfl) (fun K_ hK_ => ?_); go_big_quiet_op; refine hK_ _ ?_; clear hK_ K_)
    (refine tree_quiet (by simp only [List.getElem?_toArray, List.getElem?_cons_succ, List.getElem?_cons_zero]; rfl) (by rfl) (by rfl) (fun K_ hK_ => ?_); go_big_quiet_op; refine hK_ _ ?_; clear hK_ K_)
    (refine tree_quiet (by simp only [List.getElem?_toArray, List.getElem?_cons_succ, List.getElem?_cons_zero]; rfl) (by rfl) (by rfl) (fun K_ hK_ => ?_); go_big_quiet_op; refine hK_ _ ?_; clear hK_ K_)
    (refine tree_quiet (by simp only [List.getElem?_toArray, List.getElem?_cons_succ, List.getElem?_cons_zero]; rfl) (by rfl) (by rfl) (fun K_ hK_ => ?_); go_big_quiet_op; refine hK_ _ ?_; clear hK_ K_)
    (refine tree_quiet (by simp only [List.getElem?_toArray, List.getElem?_cons_succ, List.getElem?_cons_zero]; rfl) (by rfl) (by rfl) (fun K_ hK_ => ?_); go_big_quiet_op; refine hK_ _ ?_; clear hK_ K_)
    (refine tree_quiet (by simp only [List.getElem?_toArray, List.getElem?_cons_succ, List.getElem?_cons_zero]; rfl) (by rfl) (by rfl) (fun K_ hK_ => ?_); go_big_quiet_op; refine hK_ _ ?_; clear hK_ K_)
    (refine tree_quiet (by simp only [List.getElem?_toArray, List.getElem?_cons_succ, List.getElem?_cons_zero]; rfl) (by rfl) (by rfl) (fun K_ hK_ => ?_); go_big_quiet_op; refine hK_ _ ?_; clear hK_ K_)
    (refine tree_quiet (by simp only [List.getElem?_toArray, List.getElem?_cons_succ, List.getElem?_cons_zero]; rfl) (by rfl) (by rfl) (fun K_ hK_ => ?_); go_big_quiet_op; refine hK_ _ ?_; clear hK_ K_)
    (refine tree_run (by simp only [List.getElem?_toArray, List.getElem?_cons_succ, List.getElem?_cons_zero]; rfl) (by rfl) (by rfl) (fun K_ hK_ => ?_); have HK_ := Lib.hid hK_; clear hK_; go_wp2_with (first | (go_at_call 12; (with_reducible refine (HS1.out _ (by exact blw) _ _).mono ?_); rintro e w6 ⟨rfl, hb6⟩) | (go_at_call 12; (with_reducible refine (HS2.out _ (by exact blw) _ _).mono ?_); rintro e w7 ⟨rfl, hb7⟩)); refine HK_.out _ _ (wld_ofA) ?_; clear HK_)
    refine tree_move (by repeat (first | with_reducible exact same_below (brefl _) | with_reducible exact same_below (bdrew1 (brefl _)) | with_reducible assumption | with_reducible refine same_drew ?_ | (with_reducible refine same_set ?_ (by first | (left; simp; done) | (right; simp; done) | (right; simp; omega)) _) | with_reducible refine same_then ?_ (by assumption) | with_reducible refine same_alloc ?_ _ | exact same_below (brefl _) | exact same_realloc (by simp) | exact same_below (bdrew1 (brefl _)) | assumption | refine same_drew ?_ | refine same_then ?_ (by assumption) | refine same_alloc ?_ _ | (refine same_set ?_ (by first | (left; simp; done) | (right; simp; done) | (right; simp; omega)) _))) ?_; clear hG_; intro hG_
    (refine tree_quiet (by simp only [List.getElem?_toArray, List.getElem?_cons_succ, List.getElem?_cons_zero]; rfl) (by rfl) (by rfl) (fun K_ hK_ => ?_); go_big_quiet_op; refine hK_ _ ?_; clear hK_ K_)
    (refine tree_quiet (by simp only [List.getElem?_toArray, List.getElem?_cons_succ, List.getElem?_cons_zero]; rfl) (by rfl) (by rfl) (fun K_ hK_ => ?_); go_big_quiet_op; refine hK_ _ ?_; clear hK_ K_)
    refine tree_nil ?_
    clear hG_
    have hb7' : Below w5.heap.size w5 w7 := by exact blw
    have HB7 := Lib.hid (HB5.out.trans (hb7'.mono hz5))
    have HM7 := Lib.hid (HM5H.out.below hb7')
    clear hb6 hb7 hb7' HS1 HS2 HM5H HM5 HH5
    go_wp2_with fail
    go_loopw [82] (fun i wr => ∃ j : Nat, j ≤ m ∧ i = .int .i64 (j : Nat) ∧ Below w7.heap.size w7 wr) (fun i _ => m - (intOf i).toNat)
    case atStart => exact ⟨0, Nat.zero_le _, rfl, Below.refl _ _⟩
    case round =>
      obtain ⟨j, hj, rfl, hb⟩ := hrel
      have HB8 := Lib.hid hb
      have hz8 := hb.size
      clear hb
      by_cases hlt : j < m
      · obtain ⟨gi, oi, x, rfl, hgi, hx, hci⟩ := iv_at ((HI.out.below HB7.out).below HB8.out) (k := j) (by rw [HIL.out]; exact hlt)
        obtain ⟨x0, hx0⟩ : ∃ x0, ids[0]? = some x0 := ⟨_, List.getElem?_eq_getElem (by rw [HIL.out]; omega)⟩
        obtain ⟨ga, oa, p1, ha1, hga, hp1, hc1, hc2⟩ := gv_at (HM7.out.below HB8.out) (k := i + j) (by rw [HRL.out]; omega)
        obtain ⟨gb, ob, p2, ha2, hgb, hp2, hc3, hc4⟩ := gv_at (HM7.out.below HB8.out) (k := i) (by rw [HRL.out]; omega)
        rw [ha1] at ha2
        cases ha2
        have e1 := HMID.out j x hx
        have e2 := HMID.out 0 x0 hx0
        rw [Nat.add_zero] at e2
        rw [e1] at hp1
        rw [e2] at hp2
        cases hp1
        cases hp2
        simp only at hc1 hc2 hc3 hc4
        generalize insC l i = C at *
        cases ha1
        simp only [Nat.zero_add] at hc1 hc2 hc3 hc4
        clear e1 e2 hx hx0
        go_wp2_with fail
        refine wp_region_tree (.step 0 (.step 1 (.step 2 (.step 3 (.step 4 (.step 5 (.step 6 (.step 7 (.step 8 (.step 9 (.step 10 (.step 11 (.step 12 (.step 13 (.step 14 (.step 15 (.step 16 (.step 17 (.step 18 (.step 19 (.step 20 (.step 21 (.step 22 (.step 23 .nil)))))))))))))))))))))))) (by kernel_rfl) (by kernel_rfl) (by kernel_rfl) (by kernel_rfl) (by intro _ _ d_ _ _ h_; cases d_ <;> first | exact h_ | (dsimp +zetaDelta only at h_ ⊢; exact h_)) (fun w' => ∃ p : Wld wr [], w' = p.val) (wld_start _ _) ?_
        have hG_ := @wldC wr
        (refine tree_quiet (by simp only [List.getElem?_toArray, List.getElem?_cons_succ, List.getElem?_cons_zero]; rfl) (by rfl) (by rfl) (fun K_ hK_ => ?_); go_big_quiet_op; refine hK_ _ ?_; clear hK_ K_)
        (refine tree_quiet (by simp only [List.getElem?_toArray, List.getElem?_cons_succ, List.getElem?_cons_zero]; rfl) (by rfl) (by rfl) (fun K_ hK_ => ?_); go_big_quiet_op; refine hK_ _ ?_; clear hK_ K_)
        (refine tree_quiet (by simp only [List.getElem?_toArray, List.getElem?_cons_succ, List.getElem?_cons_zero]; rfl) (by rfl) (by rfl) (fun K_ hK_ => ?_); go_big_quiet_op; refine hK_ _ ?_; clear hK_ K_)
        (refine tree_quiet (by simp only [List.getElem?_toArray, List.getElem?_cons_succ, List.getElem?_cons_zero]; rfl) (by rfl) (by rfl) (fun K_ hK_ => ?_); go_big_quiet_op; refine hK_ _ ?_; clear hK_ K_)
        (refine tree_quiet (by simp only [List.getElem?_toArray, List.getElem?_cons_succ, List.getElem?_cons_zero]; rfl) (by rfl) (by rfl) (fun K_ hK_ => ?_); go_big_quiet_op; refine hK_ _ ?_; clear hK_ K_)
        (refine tree_quiet (by simp only [List.getElem?_toArray, List.getElem?_cons_succ, List.getElem?_cons_zero]; rfl) (by rfl) (by rfl) (fun K_ hK_ => ?_); go_big_quiet_op; refine hK_ _ ?_; clear hK_ K_)
        (refine tree_quiet (by simp only [List.getElem?_toArray, List.getElem?_cons_succ, List.getElem?_cons_zero]; rfl) (by rfl) (by rfl) (fun K_ hK_ => ?_); go_big_quiet_op; refine hK_ _ ?_; clear hK_ K_)
        (refine tree_quiet (by simp only [List.getElem?_toArray, List.getElem?_cons_succ, List.getElem?_cons_zero]; rfl) (by rfl) (by rfl) (fun K_ hK_ => ?_); go_big_quiet_op; refine hK_ _ ?_; clear hK_ K_)
        (refine tree_quiet (by simp only [List.getElem?_toArray, List.getElem?_cons_succ, List.getElem?_cons_zero]; rfl) (by rfl) (by rfl) (fun K_ hK_ => ?_); go_big_quiet_op; refine hK_ _ ?_; clear hK_ K_)
        (refine tree_quiet (by simp only [List.getElem?_toArray, List.getElem?_cons_succ, List.getElem?_cons_zero]; rfl) (by rfl) (by rfl) (fun K_ hK_ => ?_); go_big_quiet_op; refine hK_ _ ?_; clear hK_ K_)
        (refine tree_quiet (by simp only [List.getElem?_toArray, List.getElem?_cons_succ, List.getElem?_cons_zero]; rfl) (by rfl) (by rfl) (fun K_ hK_ => ?_); go_big_quiet_op; refine hK_ _ ?_; clear hK_ K_)
        (refine tree_quiet (by simp only [List.getElem?_toArray, List.getElem?_cons_succ, List.getElem?_cons_zero]; rfl) (by rfl) (by rfl) (fun K_ hK_ => ?_); go_big_quiet_op; refine hK_ _ ?_; clear hK_ K_)
        (refine tree_quiet (by simp only [List.getElem?_toArray, List.getElem?_cons_succ, List.getElem?_cons_zero]; rfl) (by rfl) (by rfl) (fun K_ hK_ => ?_); go_big_quiet_op; refine hK_ _ ?_; clear hK_ K_)
        (refine tree_quiet (by simp only [List.getElem?_toArray, List.getElem?_cons_succ, List.getElem?_cons_zero]; rfl) (by rfl) (by rfl) (fun K_ hK_ => ?_); go_big_quiet_op; refine hK_ _ ?_; clear hK_ K_)
        (refine tree_quiet (by simp only [List.getElem?_toArray, List.getElem?_cons_succ, List.getElem?_cons_zero]; rfl) (by rfl) (by rfl) (fun K_ hK_ => ?_); go_big_quiet_op; refine hK_ _ ?_; clear hK_ K_)
        (refine tree_quiet (by simp only [List.getElem?_toArray, List.getElem?_cons_succ, List.getElem?_cons_zero]; rfl) (by rfl) (by rfl) (fun K_ hK_ => ?_); go_big_quiet_op; refine hK_ _ ?_; clear hK_ K_)
        (refine tree_quiet (by simp only [List.getElem?_toArray, List.getElem?_cons_succ, List.getElem?_cons_zero]; rfl) (by rfl) (by rfl) (fun K_ hK_ => ?_); go_big_quiet_op; refine hK_ _ ?_; clear hK_ K_)
        (refine tree_quiet (by simp only [List.getElem?_toArray, List.getElem?_cons_succ, List.getElem?_cons_zero]; rfl) (by rfl) (by rfl) (fun K_ hK_ => ?_); go_big_quiet_op; refine hK_ _ ?_; clear hK_ K_)
        (refine tree_quiet (by simp only [List.getElem?_toArray, List.getElem?_cons_succ, List.getElem?_cons_zero]; rfl) (by rfl) (by rfl) (fun K_ hK_ => ?_); go_big_quiet_op; refine hK_ _ ?_; clear hK_ K_)
        (refine tree_quiet (by simp only [List.getElem?_toArray, List.getElem?_cons_succ, List.getElem?_cons_zero]; rfl) (by rfl) (by rfl) (fun K_ hK_ => ?_); go_big_quiet_op; refine hK_ _ ?_; clear hK_ K_)
        (refine tree_quiet (by simp only [List.getElem?_toArray, List.getElem?_cons_succ, List.getElem?_cons_zero]; rfl) (by rfl) (by rfl) (fun K_ hK_ => ?_); go_big_quiet_op; refine hK_ _ ?_; clear hK_ K_)
        (refine tree_quiet (by simp only [List.getElem?_toArray, List.getElem?_cons_succ, List.getElem?_cons_zero]; rfl) (by rfl) (by rfl) (fun K_ hK_ => ?_); go_big_quiet_op; refine hK_ _ ?_; clear hK_ K_)
        (refine tree_quiet (by simp only [List.getElem?_toArray, List.getElem?_cons_succ, List.getElem?_cons_zero]; rfl) (by rfl) (by rfl) (fun K_ hK_ => ?_); go_big_quiet_op; refine hK_ _ ?_; clear hK_ K_)
        (refine tree_quiet (by simp only [List.getElem?_toArray, List.getElem?_cons_succ, List.getElem?_cons_zero]; rfl) (by rfl) (by rfl) (fun K_ hK_ => ?_); go_big_quiet_op; refine hK_ _ ?_; clear hK_ K_)
        refine tree_nil ?_
        clear hG_
        go_wp2_with fail
        go_roundw
        case rel => exact ⟨j + 1, hlt, by go_num, HB8.out.drew⟩
        case measure => simp [intOf]; omega
      · obtain rfl : m = j := by omega
        go_wp2_with fail
        go_ret
        exact ⟨rfl, HB7.out.trans (HB8.out.mono HB7.out.size)⟩
  obtain ⟨p, rfl⟩ : ∃ p, a = some p := by
    cases a with
    | none => have := HA.out rfl; omega
    | some p => exact ⟨p, rfl⟩
  have HS1 := Lib.hid (fun W (hW : Below w5.heap.size w5 W) x y => refSameG_any (some ⟨g5, 0, none⟩) (some p) i x i y (R.take i) (l.take i) W (by rw [gv_take]; exact (HM5H.out.below hW).take _) (by rw [List.length_take, HRL.out]; omega) (by rw [gv_take]; exact (HH5.out.below hW).take _) (by rw [List.length_take, HL.out]; omega) (by omega) (by omega))
  rw [HT.out, decide_eq_true rfl] at HS1
  have HR2 := Lib.hid (show Has w5 (some ⟨g5, (i + m) * 2, none⟩) (gv (R.drop (i + m))) from by have := HM5H.out.advK c5 (i + m) (by rw [HRL.out]; omega); rw [if_neg hc5] at this; simpa [Addr.add_lit] using this)
  have HL2 := Lib.hid (show Has w5 (some (p.add (i * 2))) (gv (l.drop i)) from by have := HH5.out.advK c i (by rw [HL.out]; omega); rwa [if_neg hc] at this)
  have HS2 := Lib.hid (fun W (hW : Below w5.heap.size w5 W) x y => refSameG_any (some ⟨g5, (i + m) * 2, none⟩) (some (p.add (i * 2))) (n + m - (i + m)) x (n - i) y (R.drop (i + m)) (l.drop i) W (HR2.out.below hW) (by rw [List.length_drop, HRL.out]) (HL2.out.below hW) (by rw [List.length_drop, HL.out]) (by omega) (by omega))
  rw [HD.out, decide_eq_true rfl] at HS2
  clear HR2 HL2
  refine wp_region_tree (.step 0 (.step 1 (.step 2 (.step 3 (.step 4 (.step 5 (.step 6 (.step 7 (.step 8 (.step 9 (.step 10 (.step 11 (.step 12 (.step 13 (.step 14 (.step 15 (.narrow (.step 16 (.step 17 (.step 18 (.step 19 (.step 20 (.step 21 (.step 22 (.step 23 (.step 24 (.step 25 (.step 26 (.step 27 (.step 28 (.narrow (.step 29 (.step 30 .nil))))))))))))))))))))))))))))))))) (by kernel_rfl) (by kernel_rfl) (by kernel_rfl) (by kernel_rfl) (by intro _ _ d_ _ _ h_; cases d_ <;> first | exact h_ | (dsimp +zetaDelta only at h_ ⊢; exact h_)) (fun w' => ∃ p : Wld w5 [], w' = p.val) (wld_start _ _) ?_
  have hG_ := @wldC w5
  (refine tree_quiet (by simp only [List.getElem?_toArray, List.getElem?_cons_succ, List.getElem?_cons_zero]; rfl) (by rfl) (by rfl) (fun K_ hK_ => ?_); go_big_quiet_op; refine hK_ _ ?_; clear hK_ K_)
  (refine tree_quiet (by simp only [List.getElem?_toArray, List.getElem?_cons_succ, List.getElem?_cons_zero]; rfl) (by rfl) (by rfl) (fun K_ hK_ => ?_); go_big_quiet_op; refine hK_ _ ?_; clear hK_ K_)
  (refine tree_quiet (by simp only [List.getElem?_toArray, List.getElem?_cons_succ, List.getElem?_cons_zero]; rfl) (by rfl) (by rfl) (fun K_ hK_ => ?_); go_big_quiet_op; refine hK_ _ ?_; clear hK_ K_)
  (refine tree_quiet (by simp only [List.getElem?_toArray, List.getElem?_cons_succ, List.getElem?_cons_zero]; rfl) (by rfl) (by rfl) (fun K_ hK_ => ?_); go_big_quiet_op; refine hK_ _ ?_; clear hK_ K_)
  (refine tree_quiet (by simp only [List.getElem?_toArray, List.getElem?_cons_succ, List.getElem?_cons_zero]; rfl) (by rfl) (by rfl) (fun K_ hK_ => ?_); go_big_quiet_op; refine hK_ _ ?_; clear hK_ K_)
  (refine tree_quiet (by simp only [List.getElem?_toArray, List.getElem?_cons_succ, List.getElem?_cons_zero]; rfl) (by rfl) (by rfl) (fun K_ hK_ => ?_); go_big_quiet_op; refine hK_ _ ?_; clear hK_ K_)
  (refine tree_quiet (by simp only [List.getElem?_toArray, List.getElem?_cons_succ, List.getElem?_cons_zero]; rfl) (by rfl) (by rfl) (fun K_ hK_ => ?_); go_big_quiet_op; refine hK_ _ ?_; clear hK_ K_)
  (refine tree_quiet (by simp only [List.getElem?_toArray, List.getElem?_cons_succ, List.getElem?_cons_zero]; rfl) (by rfl) (by rfl) (fun K_ hK_ => ?_); go_big_quiet_op; refine hK_ _ ?_; clear hK_ K_)
  (refine tree_quiet (by simp only [List.getElem?_toArray, List.getElem?_cons_succ, List.getElem?_cons_zero]; rfl) (by rfl) (by rfl) (fun K_ hK_ => ?_); go_big_quiet_op; refine hK_ _ ?_; clear hK_ K_)
  (refine tree_quiet (by simp only [List.getElem?_toArray, List.getElem?_cons_succ, List.getElem?_cons_zero]; rfl) (by rfl) (by rfl) (fun K_ hK_ => ?_); go_big_quiet_op; refine hK_ _ ?_; clear hK_ K_)
  (refine tree_quiet (by simp only [List.getElem?_toArray, List.getElem?_cons_succ, List.getElem?_cons_zero]; rfl) (by rfl) (by rfl) (fun K_ hK_ => ?_); go_big_quiet_op; refine hK_ _ ?_; clear hK_ K_)
  (refine tree_quiet (by simp only [List.getElem?_toArray, List.getElem?_cons_succ, List.getElem?_cons_zero]; rfl) (by rfl) (by rfl) (fun K_ hK_ => ?_); go_big_quiet_op; refine hK_ _ ?_; clear hK_ K_)
  (refine tree_quiet (by simp only [List.getElem?_toArray, List.getElem?_cons_succ, List.getElem?_cons_zero]; rfl) (by rfl) (by rfl) (fun K_ hK_ => ?_); go_big_quiet_op; refine hK_ _ ?_; clear hK_ K_)
  (refine tree_quiet (by simp only [List.getElem?_toArray, List.getElem?_cons_succ, List.getElem?_cons_zero]; rfl) (by rfl) (by rfl) (fun K_ hK_ => ?_); go_big_quiet_op; refine hK_ _ ?_; clear hK_ K_)
  (refine tree_quiet (by simp only [List.getElem?_toArray, List.getElem?_cons_succ, List.getElem?_cons_zero]; rfl) (by rfl) (by rfl) (fun K_ hK_ => ?_); go_big_quiet_op; refine hK_ _ ?_; clear hK_ K_)
  (refine tree_run (by simp only [List.getElem?_toArray, List.getElem?_cons_succ, List.getElem?_cons_zero]; rfl) (by rfl) (by rfl) (fun K_ hK_ => ?_); have HK_ := Lib.hid hK_; clear hK_; go_wp2_with (first | (go_at_call 12; (with_reducible refine (HS1.out _ (by exact blw) _ _).mono ?_); rintro e w6 ⟨rfl, hb6⟩) | (go_at_call 12; (with_reducible refine (HS2.out _ (by exact blw) _ _).mono ?_); rintro e w7 ⟨rfl, hb7⟩)); refine HK_.out _ _ (wld_ofA) ?_; clear HK_)
  refine tree_move (by repeat (first | with_reducible exact same_below (brefl _) | with_reducible exact same_below (bdrew1 (brefl _)) | with_reducible assumption | with_reducible refine same_drew ?_ | (with_reducible refine same_set ?_ (by first | (left; simp; done) | (right; simp; done) | (right; simp; omega)) _) | with_reducible refine same_then ?_ (by assumption) | with_reducible refine same_alloc ?_ _ | exact same_below (brefl _) | exact same_realloc (by simp) | exact same_below (bdrew1 (brefl _)) | assumption | refine same_drew ?_ | refine same_then ?_ (by assumption) | refine same_alloc ?_ _ | (refine same_set ?_ (by first | (left; simp; done) | (right; simp; done) | (right; simp; omega)) _))) ?_; clear hG_; intro hG_
  (refine tree_quiet (by simp only [List.getElem?_toArray, List.getElem?_cons_succ, List.getElem?_cons_zero]; rfl) (by rfl) (by rfl) (fun K_ hK_ => ?_); go_big_quiet_op; refine hK_ _ ?_; clear hK_ K_)
  (refine tree_quiet (by simp only [List.getElem?_toArray, List.getElem?_cons_succ, List.getElem?_cons_zero]; rfl) (by rfl) (by rfl) (fun K_ hK_ => ?_); go_big_quiet_op; refine hK_ _ ?_; clear hK_ K_)
  (refine tree_quiet (by simp only [List.getElem?_toArray, List.getElem?_cons_succ, List.getElem?_cons_zero]; rfl) (by rfl) (by rfl) (fun K_ hK_ => ?_); go_big_quiet_op; refine hK_ _ ?_; clear hK_ K_)
  (refine tree_quiet (by simp only [List.getElem?_toArray, List.getElem?_cons_succ, List.getElem?_cons_zero]; rfl) (by rfl) (by rfl) (fun K_ hK_ => ?_); go_big_quiet_op; refine hK_ _ ?_; clear hK_ K_)
  (refine tree_quiet (by simp only [List.getElem?_toArray, List.getElem?_cons_succ, List.getElem?_cons_zero]; rfl) (by rfl) (by rfl) (fun K_ hK_ => ?_); go_big_quiet_op; refine hK_ _ ?_; clear hK_ K_)
  (refine tree_quiet (by simp only [List.getElem?_toArray, List.getElem?_cons_succ, List.getElem?_cons_zero]; rfl) (by rfl) (by rfl) (fun K_ hK_ => ?_); go_big_quiet_op; refine hK_ _ ?_; clear hK_ K_)
  (refine tree_quiet (by simp only [List.getElem?_toArray, List.getElem?_cons_succ, List.getElem?_cons_zero]; rfl) (by rfl) (by rfl) (fun K_ hK_ => ?_); go_big_quiet_op; refine hK_ _ ?_; clear hK_ K_)
  (refine tree_quiet (by simp only [List.getElem?_toArray, List.getElem?_cons_succ, List.getElem?_cons_zero]; rfl) (by rfl) (by rfl) (fun K_ hK_ => ?_); go_big_quiet_op; refine hK_ _ ?_; clear hK_ K_)
  (refine tree_quiet (by simp only [List.getElem?_toArray, List.getElem?_cons_succ, List.getElem?_cons_zero]; rfl) (by rfl) (by rfl) (fun K_ hK_ => ?_); go_big_quiet_op; refine hK_ _ ?_; clear hK_ K_)
  (refine tree_quiet (by simp only [List.getElem?_toArray, List.getElem?_cons_succ, List.getElem?_cons_zero]; rfl) (by rfl) (by rfl) (fun K_ hK_ => ?_); go_big_quiet_op; refine hK_ _ ?_; clear hK_ K_)
  (refine tree_quiet (by simp only [List.getElem?_toArray, List.getElem?_cons_succ, List.getElem?_cons_zero]; rfl) (by rfl) (by rfl) (fun K_ hK_ => ?_); go_big_quiet_op; refine hK_ _ ?_; clear hK_ K_)
  (refine tree_quiet (by simp only [List.getElem?_toArray, List.getElem?_cons_succ, List.getElem?_cons_zero]; rfl) (by rfl) (by rfl) (fun K_ hK_ => ?_); go_big_quiet_op; refine hK_ _ ?_; clear hK_ K_)
  (refine tree_run (by simp only [List.getElem?_toArray, List.getElem?_cons_succ, List.getElem?_cons_zero]; rfl) (by rfl) (by rfl) (fun K_ hK_ => ?_); have HK_ := Lib.hid hK_; clear hK_; go_wp2_with (first | (go_at_call 12; (with_reducible refine (HS1.out _ (by exact blw) _ _).mono ?_); rintro e w6 ⟨rfl, hb6⟩) | (go_at_call 12; (with_reducible refine (HS2.out _ (by exact blw) _ _).mono ?_); rintro e w7 ⟨rfl, hb7⟩)); refine HK_.out _ _ (wld_ofA) ?_; clear HK_)
  refine tree_move (by repeat (first | with_reducible exact same_below (brefl _) | with_reducible exact same_below (bdrew1 (brefl _)) | with_reducible assumption | with_reducible refine same_drew ?_ | (with_reducible refine same_set ?_ (by first | (left; simp; done) | (right; simp; done) | (right; simp; omega)) _) | with_reducible refine same_then ?_ (by assumption) | with_reducible refine same_alloc ?_ _ | exact same_below (brefl _) | exact same_realloc (by simp) | exact same_below (bdrew1 (brefl _)) | assumption | refine same_drew ?_ | refine same_then ?_ (by assumption) | refine same_alloc ?_ _ | (refine same_set ?_ (by first | (left; simp; done) | (right; simp; done) | (right; simp; omega)) _))) ?_; clear hG_; intro hG_
  (refine tree_quiet (by simp only [List.getElem?_toArray, List.getElem?_cons_succ, List.getElem?_cons_zero]; rfl) (by rfl) (by rfl) (fun K_ hK_ => ?_); go_big_quiet_op; refine hK_ _ ?_; clear hK_ K_)
  (refine tree_quiet (by simp only [List.getElem?_toArray, List.getElem?_cons_succ, List.getElem?_cons_zero]; rfl) (by rfl) (by rfl) (fun K_ hK_ => ?_); go_big_quiet_op; refine hK_ _ ?_; clear hK_ K_)
  refine tree_nil ?_
  clear hG_
  have hb7' : Below w5.heap.size w5 w7 := by exact blw
  have HB7 := Lib.hid (HB5.out.trans (hb7'.mono hz5))
  have HM7 := Lib.hid (HM5H.out.below hb7')
  clear hb6 hb7 hb7' HS1 HS2 HM5H HM5 HH5
  go_wp2_with fail
  go_loopw [82] (fun i wr => ∃ j : Nat, j ≤ m ∧ i = .int .i64 (j : Nat) ∧ Below w7.heap.size w7 wr) (fun i _ => m - (intOf i).toNat)
  case atStart => exact ⟨0, Nat.zero_le _, rfl, Below.refl _ _⟩
  case round =>
    obtain ⟨j, hj, rfl, hb⟩ := hrel
    have HB8 := Lib.hid hb
    have hz8 := hb.size
    clear hb
    by_cases hlt : j < m
    · obtain ⟨gi, oi, x, rfl, hgi, hx, hci⟩ := iv_at ((HI.out.below HB7.out).below HB8.out) (k := j) (by rw [HIL.out]; exact hlt)
      obtain ⟨x0, hx0⟩ : ∃ x0, ids[0]? = some x0 := ⟨_, List.getElem?_eq_getElem (by rw [HIL.out]; omega)⟩
      obtain ⟨ga, oa, p1, ha1, hga, hp1, hc1, hc2⟩ := gv_at (HM7.out.below HB8.out) (k := i + j) (by rw [HRL.out]; omega)
      obtain ⟨gb, ob, p2, ha2, hgb, hp2, hc3, hc4⟩ := gv_at (HM7.out.below HB8.out) (k := i) (by rw [HRL.out]; omega)
      rw [ha1] at ha2
      cases ha2
      have e1 := HMID.out j x hx
      have e2 := HMID.out 0 x0 hx0
      rw [Nat.add_zero] at e2
      rw [e1] at hp1
      rw [e2] at hp2
      cases hp1
      cases hp2
      simp only at hc1 hc2 hc3 hc4
      generalize insC l i = C at *
      cases ha1
      simp only [Nat.zero_add] at hc1 hc2 hc3 hc4
      clear e1 e2 hx hx0
      go_wp2_with fail
      refine wp_region_tree (.step 0 (.step 1 (.step 2 (.step 3 (.step 4 (.step 5 (.step 6 (.step 7 (.step 8 (.step 9 (.step 10 (.step 11 (.step 12 (.step 13 (.step 14 (.step 15 (.step 16 (.step 17 (.step 18 (.step 19 (.step 20 (.step 21 (.step 22 (.step 23 .nil)))))))))))))))))))))))) (by kernel_rfl) (by kernel_rfl) (by kernel_rfl) (by kernel_rfl) (by intro _ _ d_ _ _ h_; cases d_ <;> first | exact h_ | (dsimp +zetaDelta only at h_ ⊢; exact h_)) (fun w' => ∃ p : Wld wr [], w' = p.val) (wld_start _ _) ?_
      have hG_ := @wldC wr
      (refine tree_quiet (by simp only [List.getElem?_toArray, List.getElem?_cons_succ, List.getElem?_cons_zero]; rfl) (by rfl) (by rfl) (fun K_ hK_ => ?_); go_big_quiet_op; refine hK_ _ ?_; clear hK_ K_)
      (refine tree_quiet (by simp only [List.getElem?_toArray, List.getElem?_cons_succ, List.getElem?_cons_zero]; rfl) (by rfl) (by rfl) (fun K_ hK_ => ?_); go_big_quiet_op; refine hK_ _ ?_; clear hK_ K_)
      (refine tree_quiet (by simp only [List.getElem?_toArray, List.getElem?_cons_succ, List.getElem?_cons_zero]; rfl) (by rfl) (by rfl) (fun K_ hK_ => ?_); go_big_quiet_op; refine hK_ _ ?_; clear hK_ K_)
      (refine tree_quiet (by simp only [List.getElem?_toArray, List.getElem?_cons_succ, List.getElem?_cons_zero]; rfl) (by rfl) (by rfl) (fun K_ hK_ => ?_); go_big_quiet_op; refine hK_ _ ?_; clear hK_ K_)
      (refine tree_quiet (by simp only [List.getElem?_toArray, List.getElem?_cons_succ, List.getElem?_cons_zero]; rfl) (by rfl) (by rfl) (fun K_ hK_ => ?_); go_big_quiet_op; refine hK_ _ ?_; clear hK_ K_)
      (refine tree_quiet (by simp only [List.getElem?_toArray, List.getElem?_cons_succ, List.getElem?_cons_zero]; rfl) (by rfl) (by rfl) (fun K_ hK_ => ?_); go_big_quiet_op; refine hK_ _ ?_; clear hK_ K_)
      (refine tree_quiet (by simp only [List.getElem?_toArray, List.getElem?_cons_succ, List.getElem?_cons_zero]; rfl) (by rfl) (by rfl) (fun K_ hK_ => ?_); go_big_quiet_op; refine hK_ _ ?_; clear hK_ K_)
      (refine tree_quiet (by simp only [List.getElem?_toArray, List.getElem?_cons_succ, List.getElem?_cons_zero]; rfl) (by rfl) (by rfl) (fun K_ hK_ => ?_); go_big_quiet_op; refine hK_ _ ?_; clear hK_ K_)
      (refine tree_quiet (by simp only [List.getElem?_toArray, List.getElem?_cons_succ, List.getElem?_cons_zero]; rfl) (by rfl) (by rfl) (fun K_ hK_ => ?_); go_big_quiet_op; refine hK_ _ ?_; clear hK_ K_)
      (refine tree_quiet (by simp only [List.getElem?_toArray, List.getElem?_cons_succ, List.getElem?_cons_zero]; rfl) (by rfl) (by rfl) (fun K_ hK_ => ?_); go_big_quiet_op; refine hK_ _ ?_; clear hK_ K_)
      (refine tree_quiet (by simp only [List.getElem?_toArray, List.getElem?_cons_succ, List.getElem?_cons_zero]; rfl) (by rfl) (by rfl) (fun K_ hK_ => ?_); go_big_quiet_op; refine hK_ _ ?_; clear hK_ K_)
      (refine tree_quiet (by simp only [List.getElem?_toArray, List.getElem?_cons_succ, List.getElem?_cons_zero]; rfl) (by rfl) (by rfl) (fun K_ hK_ => ?_); go_big_quiet_op; refine hK_ _ ?_; clear hK_ K_)
      (refine tree_quiet (by simp only [List.getElem?_toArray, List.getElem?_cons_succ, List.getElem?_cons_zero]; rfl) (by rfl) (by rfl) (fun K_ hK_ => ?_); go_big_quiet_op; refine hK_ _ ?_; clear hK_ K_)
      (refine tree_quiet (by simp only [List.getElem?_toArray, List.getElem?_cons_succ, List.getElem?_cons_zero]; rfl) (by rfl) (by rfl) (fun K_ hK_ => ?_); go_big_quiet_op; refine hK_ _ ?_; clear hK_ K_)
      (refine tree_quiet (by simp only [List.getElem?_toArray, List.getElem?_cons_succ, List.getElem?_cons_zero]; rfl) (by rfl) (by rfl) (fun K_ hK_ => ?_); go_big_quiet_op; refine hK_ _ ?_; clear hK_ K_)
      (refine tree_quiet (by simp only [List.getElem?_toArray, List.getElem?_cons_succ, List.getElem?_cons_zero]; rfl) (by rfl) (by rfl) (fun K_ hK_ => ?_); go_big_quiet_op; refine hK_ _ ?_; clear hK_ K_)
      (refine tree_quiet (by simp only [List.getElem?_toArray, List.getElem?_cons_succ, List.getElem?_cons_zero]; rfl) (by rfl) (by rfl) (fun K_ hK_ => ?_); go_big_quiet_op; refine hK_ _ ?_; clear hK_ K_)
      (refine tree_quiet (by simp only [List.getElem?_toArray, List.getElem?_cons_succ, List.getElem?_cons_zero]; rfl) (by rfl) (by rfl) (fun K_ hK_ => ?_); go_big_quiet_op; refine hK_ _ ?_; clear hK_ K_)
      (refine tree_quiet (by simp only [List.getElem?_toArray, List.getElem?_cons_succ, List.getElem?_cons_zero]; rfl) (by rfl) (by rfl) (fun K_ hK_ => ?_); go_big_quiet_op; refine hK_ _ ?_; clear hK_ K_)
      (refine tree_quiet (by simp only [List.getElem?_toArray, List.getElem?_cons_succ, List.getElem?_cons_zero]; rfl) (by rfl) (by rfl) (fun K_ hK_ => ?_); go_big_quiet_op; refine hK_ _ ?_; clear hK_ K_)
      (refine tree_quiet (by simp only [List.getElem?_toArray, List.getElem?_cons_succ, List.getElem?_cons_zero]; rfl) (by rfl) (by rfl) (fun K_ hK_ => ?_); go_big_quiet_op; refine hK_ _ ?_; clear hK_ K_)
      (refine tree_quiet (by simp only [List.getElem?_toArray, List.getElem?_cons_succ, List.getElem?_cons_zero]; rfl) (by rfl) (by rfl) (fun K_ hK_ => ?_); go_big_quiet_op; refine hK_ _ ?_; clear hK_ K_)
      (refine tree_quiet (by simp only [List.getElem?_toArray, List.getElem?_cons_succ, List.getElem?_cons_zero]; rfl) (by rfl) (by rfl) (fun K_ hK_ => ?_); go_big_quiet_op; refine hK_ _ ?_; clear hK_ K_)
      (refine tree_quiet (by simp only [List.getElem?_toArray, List.getElem?_cons_succ, List.getElem?_cons_zero]; rfl) (by rfl) (by rfl) (fun K_ hK_ => ?_); go_big_quiet_op; refine hK_ _ ?_; clear hK_ K_)
      refine tree_nil ?_
      clear hG_
      go_wp2_with fail
      go_roundw
      case rel => exact ⟨j + 1, hlt, by go_num, HB8.out.drew⟩
      case measure => simp [intOf]; omega
    · obtain rfl : m = j := by omega
      go_wp2_with fail
      go_ret
      exact ⟨rfl, HB7.out.trans (HB8.out.mono HB7.out.size)⟩

open Go.ChangeShapes Go.WideShapes Go.ChangeAt Go.RowKit
open Go.ChangeMaps (open_string shut_string)

set_option maxRecDepth 100000 in
theorem lineInserts_walks (H : Type) (enc : TypeId × Value → H) : Walks H enc 6 [28, 3, 22] := by
  intro W base args ds p hval hA _
  obtain ⟨v0, vs0, d0, ds0, p0, q0, hargs, rfl, rfl, h0, r0⟩ := trodAll_cons hA
  obtain ⟨v1, vs1, d1, ds1, p1, q1, rfl, rfl, rfl, h1, r1⟩ := trodAll_cons r0
  obtain ⟨v2, vs2, d2, ds2, p2, q2, rfl, rfl, rfl, h2, r2⟩ := trodAll_cons r1
  obtain ⟨rfl, rfl, rfl⟩ := trodAll_nil r2
  obtain rfl : args = #[v0, v1, v2] := by cases args; simp_all
  obtain ⟨a, n, c, l, rfl, hl, hnc, _, hn, hh⟩ := open_glyphs (hval 0 28 v0 rfl rfl) h0
  obtain ⟨z1, rfl, t1⟩ := open_int Try.underlying3 (hval 1 3 v1 rfl rfl) h1
  obtain ⟨ai, m, ci, ids, rfl, hil, _, _, _, hi, _⟩ := open_ids (hval 2 22 v2 rfl rfl) h2
  exact lineInserts_walk a n c l z1 ai m ci ids W hh hl hnc hn hi hil

set_option maxRecDepth 100000 in
theorem lineInserts_lifted (os : Os) (started : os.Started) (H : Type) (enc : TypeId × Value → H) :
    ReturnsInHanded {} Try.checked os 6 .any (Rows.lineInsertsSpec.pre6 enc Try.prog Try.f6 Rows.lineInsertsRow.domain false) (Rows.lineInsertsSpec.post enc Try.prog Try.f6 false true false false) :=
  lift_law (s := Rows.lineInsertsSpec) (fn := Try.f6) started (by kernel_rfl) Try.func6
    (ChangeSpec.witness6 (enc := enc) (C := Try.checked) false ⟨#[], #[.slice none 0 0, .int .i64 0, .slice none 0 0], []⟩ 8 (by kernel_rfl) (by kernel_rfl) (by kernel_rfl) (by kernel_rfl))
    rfl rfl (fun ds h => by match ds, h with | [d0, d1, d2], _ => rfl) (by intro t ht; simp [Try.params6] at ht; first | (subst ht; exact ⟨by kernel_rfl, of_decide_eq_true (by kernel_rfl)⟩) | (obtain rfl | rfl := ht <;> exact ⟨by kernel_rfl, of_decide_eq_true (by kernel_rfl)⟩) | (obtain rfl | rfl | rfl := ht <;> exact ⟨by kernel_rfl, of_decide_eq_true (by kernel_rfl)⟩) | (obtain rfl | rfl | rfl | rfl := ht <;> exact ⟨by kernel_rfl, of_decide_eq_true (by kernel_rfl)⟩))
    (by rw [Try.params6]; exact lineInserts_walks H enc)
theorem lineInserts_over : Rows.lineInsertsRow.holds Try.pinned (OpenSpec.ofChange Rows.lineInsertsSpec) :=
  OpenClaim.holds_of_wide 6 Try.f6 rfl rfl rfl rfl rfl rfl rfl ⟨rfl, rfl, rfl, rfl, rfl⟩ rfl rfl rfl rfl rfl (by kernel_rfl) Try.func6 (by kernel_rfl)
    (of_decide_eq_true (by kernel_rfl)) (by unfold Func.isWrapper; first | (rw [if_pos (by decide +kernel)]; kernel_rfl) | (rw [if_neg (by decide +kernel)]; exact ⟨rfl, rfl⟩))
    (fun os started H enc _ => lineInserts_lifted os started H enc)
theorem lineInserts_proved : Rows.LineInsertsSaid := lineInserts_over
#print axioms lineInserts_proved
end Go.Proofs.Ytjkddbbjbfajaaa
