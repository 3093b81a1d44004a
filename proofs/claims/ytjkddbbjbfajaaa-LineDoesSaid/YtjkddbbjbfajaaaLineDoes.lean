
/- LineDoes returns true for every numbers, every changes and every place, and changes nothing: whatever changes come, all glyphs of the line, and each of them, are the document's. No condition beside the row's own. -/
import Derived.Test.YtjkddbbjbfajaaaGSpeak
import Derived.Test.YtjkddbbjbfajaaaGFrame
import Derived.Test.YtjkddbbjbfajaaaGDo
namespace Go.Proofs.Ytjkddbbjbfajaaa
open Go.RowKit Go.Lib

theorem opsV_length : ∀ os : List OpA, (os.flatMap OpA.v).length = os.length * 3
  | [] => rfl
  | o :: os => by rw [List.flatMap_cons, List.length_append, opsV_length os, List.length_cons]; simp [OpA.v]; omega
theorem opsV_get : ∀ {os : List OpA} {j : Nat} {o : OpA}, os[j]? = some o → ∀ i, i < 3 → (os.flatMap OpA.v)[j * 3 + i]? = o.v[i]?
  | [], j, o, h, _, _ => by simp at h
  | x :: os, 0, o, h, i, hi => by
    simp at h
    subst h
    rw [List.flatMap_cons, Nat.zero_mul, Nat.zero_add, List.getElem?_append_left (by simp [OpA.v]; exact hi)]
  | x :: os, j + 1, o, h, i, hi => by
    rw [List.flatMap_cons, List.getElem?_append_right (by simp [OpA.v]; omega), show (j + 1) * 3 + i - x.v.length = j * 3 + i by simp [OpA.v]; omega]
    exact opsV_get (by simpa using h) i hi
theorem ops_at {w : World} {a : Option Addr} {os : List OpA} (h : Has w a (os.flatMap OpA.v)) {j : Nat} (hj : j < os.length) : ∃ g b o, a = some ⟨g, b, none⟩ ∧ g < w.heap.size ∧ os[j]? = some o ∧ w.cell? ⟨g, b + j * 3, none⟩ = some (.int .i64 o.k) ∧ w.cell? ⟨g, b + j * 3 + 1, none⟩ = some (.int .i64 o.z) ∧ w.cell? ⟨g, b + j * 3 + 2, none⟩ = some (.slice o.a o.ids.length o.c) := by
  obtain ⟨g, b, ha, hg, hx⟩ := h.get (by rw [opsV_length]; omega)
  have ho : os[j]? = some os[j] := List.getElem?_eq_getElem hj
  refine ⟨g, b, os[j], ha, hg, ho, hx _ _ (opsV_get ho 0 (by decide)), ?_, ?_⟩
  · rw [Nat.add_assoc]; exact hx _ _ (opsV_get ho 1 (by decide))
  · rw [Nat.add_assoc]; exact hx _ _ (opsV_get ho 2 (by decide))
def bigB (os : List OpA) : Bool := decide (60 < os.length) || os.any fun o => decide (40 < o.ids.length)
set_option maxHeartbeats 1600000 in
theorem big11_any (a : Option Addr) (n c : Nat) (os : List OpA) (w : World) (h : Has w a (os.flatMap OpA.v)) (hl : os.length = n) :
    Calls Try.prog 8 #[.slice a n c] w fun e w' => e = .returned (.bool (bigB os)) ∧ Below w.heap.size w w' := by
  have HH := Lib.hid h
  have HL := Lib.hid hl
  clear h hl
  by_cases hn : 60 < n
  · have d1 : decide (60 < (n : Int)) = true := by simp; omega
    have HB := Lib.hid (show bigB os = true by rw [bigB, HL.out, decide_eq_true hn, Bool.true_or])
    go_enter Try.func8, Try.ntmps8
    go_wp2_with fail
    go_ret
    exact ⟨by rw [HB.out]; rfl, blw⟩
  have d1 : decide (60 < (n : Int)) = false := by simp; omega
  have HB := Lib.hid (show bigB os = os.any fun o => decide (40 < o.ids.length) by rw [bigB, HL.out, decide_eq_false hn, Bool.false_or])
  go_enter Try.func8, Try.ntmps8
  go_wp2_with fail
  go_loopw [10] (fun i wr => ∃ j : Nat, j ≤ n ∧ i = .int .i64 (j : Nat) ∧ (∀ (k : Nat) o, k < j → os[k]? = some o → o.ids.length ≤ 40) ∧ Below w.heap.size w wr) (fun i _ => n - (intOf i).toNat)
  case atStart => exact ⟨0, Nat.zero_le _, rfl, fun k o hk => absurd hk (by omega), blw⟩
  case round =>
    obtain ⟨j, hj, rfl, hx, hb⟩ := hrel
    have HX := Lib.hid hx
    have HBW := Lib.hid hb
    have hzr := hb.size
    clear hx hb
    by_cases hlt : j < n
    · obtain ⟨g, b, o, rfl, hg, ho, c0, c1, c2⟩ := ops_at (HH.out.below HBW.out) (j := j) (by rw [HL.out]; exact hlt)
      have HO := Lib.hid ho
      obtain ⟨ok, oz, oa, oc, ids⟩ := o
      simp only at c0 c1 c2
      clear ho
      by_cases hm : 40 < ids.length
      · have HT := Lib.hid (show (os.any fun o => decide (40 < o.ids.length)) = true by
          rw [List.any_eq_true]
          exact ⟨_, List.mem_of_getElem? HO.out, by simpa using hm⟩)
        have d2 : decide (40 < (ids.length : Int)) = true := by simp; omega
        go_wp2_with fail
        go_ret
        exact ⟨by rw [HB.out, HT.out]; rfl, blw⟩
      · have d2 : decide (40 < (ids.length : Int)) = false := by simp; omega
        go_wp2_with fail
        go_roundw
        case rel =>
          refine ⟨j + 1, hlt, by go_num, fun k o hk ho => ?_, HBW.out.alloc hzr _⟩
          by_cases hkj : k = j
          · subst hkj
            rw [HO.out] at ho
            cases ho
            show ids.length ≤ 40
            omega
          · exact HX.out k o (by omega) ho
        case measure => simp [intOf]; omega
    · obtain rfl : n = j := by omega
      have HT := Lib.hid (show (os.any fun o => decide (40 < o.ids.length)) = false by
        rw [List.any_eq_false]
        intro o ho
        obtain ⟨k, hk⟩ := List.getElem?_of_mem ho
        have := HX.out k o (by have := (List.getElem?_eq_some_iff.1 hk).1; have := HL.out; omega) hk
        simp; omega)
      go_wp2_with fail
      go_ret
      exact ⟨by rw [HB.out, HT.out]; rfl, HBW.out⟩
theorem bigB_no {os : List OpA} (h : bigB os = false) : os.length ≤ 60 ∧ ∀ o ∈ os, o.ids.length ≤ 40 := by
  simp only [bigB, Bool.or_eq_false_iff, decide_eq_false_iff_not, List.any_eq_false, decide_eq_true_eq] at h
  exact ⟨by omega, fun o ho => by have := h.2 o ho; omega⟩
set_option maxHeartbeats 6400000 in
set_option maxRecDepth 100000 in
theorem lineDoes_walk (a : Option Addr) (n c : Nat) (ids : List Int) (ao : Option Addr) (N co : Nat) (os : List OpA) (z : Int) (w : World) (h : Has w a (iv ids)) (hl : ids.length = n) (ho : Has w ao (os.flatMap OpA.v)) (hol : os.length = N)
    (hos : ∀ o ∈ os, Has w o.a (iv o.ids) ∧ -9223372036854775808 ≤ o.z ∧ o.z ≤ 9223372036854775807) :
    Calls Try.prog 3 #[.slice a n c, .slice ao N co, .int .i64 z] w fun e w' => e = .returned (.bool true) ∧ Below w.heap.size w w' := by
  have hAC := allocC
  have hAF := allocF
  have HSP := Lib.hid (fun W => speaks11_any W)
  have HH := Lib.hid h
  have HL := Lib.hid hl
  have HO := Lib.hid ho
  have HOL := Lib.hid hol
  have HOS := Lib.hid hos
  have HBG := Lib.hid (fun W (hW : Below w.heap.size w W) => big11_any ao N co os W (HO.out.below hW) HOL.out)
  clear h hl ho hol hos
  cases hb : bigB os with
  | true =>
    rw [hb] at HBG
    clear hb
    go_enter Try.func3, Try.ntmps3
    go_wp2_with (first | (go_at_call 7; (with_reducible refine (HSP.out _).mono ?_); rintro e w1 ⟨rfl, hb1⟩; have h1c := bc hb1; have h1f := bf hb1; have h1z := hb1.size; try simp only [World.size_alloc, World.size_drew] at h1z) | (go_at_call 8; (with_reducible refine (HBG.out _ hb1).mono ?_); rintro e w2 ⟨rfl, hb2⟩; have h2c := bc hb2; have h2f := bf hb2; have h2z := hb2.size; try simp only [World.size_alloc, World.size_drew] at h2z))
    go_ret
    exact ⟨rfl, blw⟩
  | false =>
    rw [hb] at HBG
    have hbn := bigB_no hb
    have hN : N ≤ 60 := by have := HOL.out; omega
    have HOM := Lib.hid hbn.2
    clear hb hbn
    by_cases hbig : 60 < n
    · have d1 : decide (60 < (n : Int)) = true := by simp; omega
      go_enter Try.func3, Try.ntmps3
      go_wp2_with (first | (go_at_call 7; (with_reducible refine (HSP.out _).mono ?_); rintro e w1 ⟨rfl, hb1⟩; have h1c := bc hb1; have h1f := bf hb1; have h1z := hb1.size; try simp only [World.size_alloc, World.size_drew] at h1z) | (go_at_call 8; (with_reducible refine (HBG.out _ hb1).mono ?_); rintro e w2 ⟨rfl, hb2⟩; have h2c := bc hb2; have h2f := bf hb2; have h2z := hb2.size; try simp only [World.size_alloc, World.size_drew] at h2z))
      go_ret
      exact ⟨rfl, blw⟩
    have d1 : decide (60 < (n : Int)) = false := by simp; omega
    go_enter Try.func3, Try.ntmps3
    go_wp2_with (first
      | (go_at_call 7; (with_reducible refine (HSP.out _).mono ?_); rintro e w1 ⟨rfl, hb1⟩; have h1c := bc hb1; have h1f := bf hb1; have h1z := hb1.size; try simp only [World.size_alloc, World.size_drew] at h1z)
      | (go_at_call 8; (with_reducible refine (HBG.out _ hb1).mono ?_); rintro e w2 ⟨rfl, hb2⟩; have HB2 := Lib.hid (hb1.trans (hb2.mono h1z)); have hz2 : w.heap.size ≤ w2.heap.size := HB2.out.size; clear hb2)
      | (go_at_call 9; (with_reducible refine (gnew_any a n c ids w2 (HH.out.below HB2.out) HL.out (by omega)).mono ?_); rintro e w3 ⟨g, a3, c3, rfl, hG, hgg, hb3⟩; have HG3 := Lib.hid hG; have HB3 := Lib.hid (HB2.out.trans (hb3.mono hz2)); have hz3 := hb3.size; clear hG hb3)
      | (go_at_call 10; (with_reducible refine (refNewG_any a n c ids w3 (HH.out.below HB3.out) HL.out (by omega)).mono ?_); rintro e w4 ⟨a4, c4, rfl, ho, hb4⟩; have HW4 := Lib.hid (WOk.own HG3.out (show GRow w3.heap.size (newG ids) (.slice a4 n c4) w4 from ⟨a4, c4, by rw [newG_length, HL.out], by rw [newG_length, HL.out]; exact ho⟩)); have HG4 := Lib.hid (HG3.out.below hb4); have HB4 := Lib.hid (HB3.out.trans (hb4.mono HB3.out.size)); have hz4 := hb4.size; clear ho hb4))
    have hgw := (Array.getElem?_eq_some_iff.1 HG4.out.hd).1
    clear hb1 h1c h1f HSP HBG HB2 HB3 HG3
    go_loopw [8, 29] (fun v i wr => ∃ (j : Nat) (r : List (Int × Int)) (a c : _), j ≤ N ∧ i = .int .i64 (j : Nat) ∧ GIs w2.heap.size g a c r wr ∧ WOk g a r v wr ∧ r.length ≤ 60 + 40 * j ∧ Below w.heap.size w wr ∧ w2.heap.size ≤ wr.heap.size) (fun _ i _ => N - (intOf i).toNat)
    case atStart => exact ⟨0, newG ids, a3, c3, Nat.zero_le _, rfl, HG4.out, HW4.out, by rw [newG_length, HL.out]; omega, HB4.out, by omega⟩
    case round =>
      obtain ⟨j, r, a5, c5, hj, rfl, hG, hW, hrl, hb, hz5⟩ := hrel
      have HG5 := Lib.hid hG
      have HW5 := Lib.hid hW
      have HB5 := Lib.hid hb
      have hzr := hb.size
      obtain ⟨aW, cW, rfl, _⟩ := hW.ex
      clear hG hW hb HG4 HW4 HB4
      by_cases hlt : j < N
      · obtain ⟨go, bo, o, rfl, hgo, hoj, e0, e1, e2⟩ := ops_at (HO.out.below HB5.out) (j := j) (by rw [HOL.out]; exact hlt)
        have hom := List.mem_of_getElem? hoj
        have hoi := HOS.out o hom
        have hol := HOM.out o hom
        obtain ⟨ok, oz, oa, oc, oids⟩ := o
        simp only at e0 e1 e2 hoi hol
        have HOI := Lib.hid hoi.1
        have HDO := Lib.hid (fun W (hW : Below wr.heap.size wr W) => do_any w2.heap.size g a5 c5 r (.slice aW r.length cW) ok oz oa oids.length oc oids W (HG5.out.below hW) (HW5.out.below hW) ((HOI.out.below HB5.out).below hW) (fun p hp h0 => by
            obtain ⟨q, hq, hc⟩ := HOI.out 0 (.int .i64 oids[0]) (by simp [iv, List.getElem?_eq_getElem h0])
            rw [hp] at hq; cases hq
            have := cell_lt hc; rw [add_block] at this; omega) (fun p q hp hq h0 => by
            obtain ⟨q', hq', hc⟩ := HOI.out 0 (.int .i64 oids[0]) (by simp [iv, List.getElem?_eq_getElem h0])
            rw [hp] at hq'; cases hq'
            have := cell_lt hc; rw [add_block] at this
            have := (HG5.out.row.lt q.block (by rw [hq]; rfl)).1; omega) rfl (by omega) (by have := hW.size; omega) (by omega) (by omega) hoi.2.1 hoi.2.2)
        have hrl2 := opG_length ok oz oids r
        obtain ⟨R, hR⟩ : ∃ R, R = opG ok oz oids r := ⟨_, rfl⟩
        rw [← hR] at HDO hrl2
        clear hR hoi hom hoj
        go_wp2_with (first
          | (go_at_call 11; (with_reducible refine (HDO.out _ (by exact blw)).mono ?_); rintro e w6 ⟨a6, c6, v6, rfl, hG, hW, hS⟩; obtain ⟨aX, cX, rfl, hX, _⟩ := hW.ex; have HG6 := Lib.hid hG; have HW6 := Lib.hid hW; have HX6 := Lib.hid hX; have HB6 := Lib.hid (show Below w.heap.size w w6 from (HB5.out.alloc hzr _).trans (hS.below.mono hz2)); have hz6 := hS.below.size; simp only [World.size_alloc] at hz6; clear hG hW hX hS)
          | (go_at_call 13; (with_reducible refine (gglyphs_any _ g a6 c6 R w6 HG6.out (by omega)).mono ?_); rintro e w7 ⟨a7, c7, rfl, ho, _, _, _, hb7⟩; have HM7 := Lib.hid (has_of_owns ho); have HB7 := Lib.hid hb7; have HX7 := Lib.hid (HX6.out.below hb7); clear ho hb7)
          | (go_at_call 12; (with_reducible refine (refSameG_any a7 aX R.length c7 R.length cX R R w7 HM7.out rfl HX7.out rfl (by omega) (by omega)).mono ?_); rintro e w8 ⟨rfl, hb8⟩; rw [decide_eq_true rfl]; have HB8 := Lib.hid (HB7.out.trans (hb8.mono HB7.out.size)); have HG8 := Lib.hid (HG6.out.below HB8.out); clear hb8)
          | (go_at_call 14; (with_reducible refine (glen_any w2.heap.size g a6 c6 R w8 HG8.out).mono ?_); rintro e w_ ⟨rfl, rfl⟩))
        go_roundw
        case rel =>
          have := HB8.out.size
          exact ⟨j + 1, R, a6, c6, hlt, by go_num, HG8.out, HW6.out.below HB8.out, by omega, HB6.out.trans (HB8.out.mono HB6.out.size), by omega⟩
        case measure => simp [intOf]; omega
      · obtain rfl : N = j := by omega
        obtain ⟨_, _, he, hwh, _⟩ := HW5.out.ex
        injection he with e1 e2 e3
        subst e1 e3
        have HWH := Lib.hid hwh
        have HAt := Lib.hid (gat_any w2.heap.size g a5 c5 r wr HG5.out z)
        clear hwh
        cases hin : inG r z with
        | true =>
          rw [hin] at HAt
          obtain ⟨q, p, rfl, hp⟩ := inG_yes hin
          rw [atG_of hp] at HAt
          have hq := (List.getElem?_eq_some_iff.1 hp).1
          obtain ⟨gl, ol, p', rfl, hgl, hp', c1, c2⟩ := gv_at HWH.out (k := q) hq
          rw [hp] at hp'
          cases hp'
          obtain ⟨p1, p2⟩ := p
          simp only [glyphA] at HAt c1 c2
          have f0 : decide (0 ≤ (q : Int)) = true := by simp
          have f1 : decide ((q : Int) < (r.length : Int)) = true := by simp; omega
          have f2 : decide (q < r.length) = true := by simp; omega
          generalize r.length = n9 at *
          clear hin hp
          go_wp2_with (go_at_call 15; (with_reducible refine HAt.out.mono ?_); rintro e w6 ⟨rfl, hb6⟩; have h6c := bc hb6; have h6z := hb6.size; have HB6 := Lib.hid (HB5.out.trans (hb6.mono hzr)); clear hb6)
          obtain ⟨V, hV⟩ : ∃ V, V = w6.alloc (.cells #[.int .i64 p1, .int .i64 p2] 38) := ⟨_, rfl⟩
          have y0 : V.cell? ⟨w6.heap.size, 0, none⟩ = some (.int .i64 p1) := by rw [hV, hAC, if_pos rfl]; rfl
          have y1 : V.cell? ⟨w6.heap.size, 1, none⟩ = some (.int .i64 p2) := by rw [hV, hAC, if_pos rfl]; rfl
          have y2 : V.cell? ⟨gl, ol + q * 2, none⟩ = some (.int .i64 p1) := by rw [hV, hAC, if_neg (by omega), h6c, if_pos hgl]; exact c1
          have y3 : V.cell? ⟨gl, ol + q * 2 + 1, none⟩ = some (.int .i64 p2) := by rw [hV, hAC, if_neg (by omega), h6c, if_pos hgl]; exact c2
          have hl0 := cell_lt y0
          have hl2 := cell_lt y2
          simp only at hl0 hl2
          have HV := Lib.hid (show Below w.heap.size w V by rw [hV]; exact HB6.out.alloc HB6.out.size _)
          rw [← hV]
          clear hV h6c
          refine wp_region_tree (.step 0 (.step 1 (.step 2 (.step 3 (.step 4 (.step 5 (.step 6 (.step 7 (.step 8 (.step 9 (.step 10 (.step 11 (.step 12 (.step 13 (.step 14 (.step 15 (.step 16 (.step 17 (.step 18 .nil))))))))))))))))))) (by kernel_rfl) (by kernel_rfl) (by kernel_rfl) (by kernel_rfl) (by intro _ _ d_ _ _ h_; cases d_ <;> first | exact h_ | (dsimp +zetaDelta only at h_ ⊢; exact h_)) (fun w' => ∃ p : Wld V [], w' = p.val) (wld_start _ _) ?_
          have hG_ := @wldC V
          (refine tree_quiet (by simp only [List.getElem?_toArray, List.getElem?_cons_succ, List.getElem?_cons_zero]; rfl) (by rfl) (by rfl) (fun K_ hK_ => ?_); go_big_quiet_op; refine hK_ _ ?_; clear hK_ K_)
          (refine tree_quiet (by simp only [List.getElem?_toArray, List.getElem?_cons_succ, List.getElem?_cons_zero]; rfl) (by rfl) (by rfl) (fun K_ hK_ => ?_); go_big_quiet_op; refine hK_ _ ?_; clear hK_ K_)
          (refine tree_quiet (by simp only [List.getElem?_toArray, List.getElem?_cons_succ, List.getElem?_cons_zero]; rfl) (by rfl) (by rfl) (fun K_ hK_ => ?_); go_big_quiet_op; refine hK_ _ ?_; clear hK_ K_)
          (refine tree_quiet (by simp only [List.getElem?_toArray, List.getElem?_cons_succ, List.getElem?_cons_zero]; rfl) (by rfl) (by rfl) (fun K_ hK_ => ?_); go_big_quiet_op; refine hK_ _ ?_; clear hK_ K_)
          (refine tree_quiet (by simp only [List.getElem?_toArray, List.getElem?_cons_succ, List.getElem?_cons_zero]; rfl) (by rfl) (by rfl) (fun K_ hK_ => ?_); go_big_quiet_op; refine hK_ _ ?_; clear hK_ K_)
          (refine tree_quiet (by simp only [List.getElem?_toArray, List.getElem?_cons_succ, List.getElem?_cons_zero]; rfl) (by rfl) (by rfl) (fun K_ hK_ => ?_); go_big_quiet_op; refine hK_ _ ?_; clear hK_ K_)
          (refine tree_quiet (by simp only [List.getElem?_toArray, List.getElem?_cons_succ, List.getElem?_cons_zero]; rfl) (by rfl) (by rfl) (fun K_ hK_ => ?_); go_big_quiet_op; refine hK_ _ ?_; clear hK_ K_)
          (refine tree_quiet (by simp only [List.getElem?_toArray, List.getElem?_cons_succ, List.getElem?_cons_zero]; rfl) (by rfl) (by rfl) (fun K_ hK_ => ?_); go_big_quiet_op; refine hK_ _ ?_; clear hK_ K_)
          (refine tree_quiet (by simp only [List.getElem?_toArray, List.getElem?_cons_succ, List.getElem?_cons_zero]; rfl) (by rfl) (by rfl) (fun K_ hK_ => ?_); go_big_quiet_op; refine hK_ _ ?_; clear hK_ K_)
          (refine tree_quiet (by simp only [List.getElem?_toArray, List.getElem?_cons_succ, List.getElem?_cons_zero]; rfl) (by rfl) (by rfl) (fun K_ hK_ => ?_); go_big_quiet_op; refine hK_ _ ?_; clear hK_ K_)
          refine tree_skip (by simp only [List.getElem?_toArray, List.getElem?_cons_succ, List.getElem?_cons_zero]; rfl) (by rfl) ?_; dsimp only [Act.put]; simp only [List.setIfInBounds_toArray, List.set_cons_succ, List.set_cons_zero]
          refine tree_skip (by simp only [List.getElem?_toArray, List.getElem?_cons_succ, List.getElem?_cons_zero]; rfl) (by rfl) ?_; dsimp only [Act.put]; simp only [List.setIfInBounds_toArray, List.set_cons_succ, List.set_cons_zero]
          refine tree_skip (by simp only [List.getElem?_toArray, List.getElem?_cons_succ, List.getElem?_cons_zero]; rfl) (by rfl) ?_; dsimp only [Act.put]; simp only [List.setIfInBounds_toArray, List.set_cons_succ, List.set_cons_zero]
          refine tree_skip (by simp only [List.getElem?_toArray, List.getElem?_cons_succ, List.getElem?_cons_zero]; rfl) (by rfl) ?_; dsimp only [Act.put]; simp only [List.setIfInBounds_toArray, List.set_cons_succ, List.set_cons_zero]
          refine tree_skip (by simp only [List.getElem?_toArray, List.getElem?_cons_succ, List.getElem?_cons_zero]; rfl) (by rfl) ?_; dsimp only [Act.put]; simp only [List.setIfInBounds_toArray, List.set_cons_succ, List.set_cons_zero]
          refine tree_skip (by simp only [List.getElem?_toArray, List.getElem?_cons_succ, List.getElem?_cons_zero]; rfl) (by rfl) ?_; dsimp only [Act.put]; simp only [List.setIfInBounds_toArray, List.set_cons_succ, List.set_cons_zero]
          refine tree_skip (by simp only [List.getElem?_toArray, List.getElem?_cons_succ, List.getElem?_cons_zero]; rfl) (by rfl) ?_; dsimp only [Act.put]; simp only [List.setIfInBounds_toArray, List.set_cons_succ, List.set_cons_zero]
          (refine tree_quiet (by simp only [List.getElem?_toArray, List.getElem?_cons_succ, List.getElem?_cons_zero]; rfl) (by rfl) (by rfl) (fun K_ hK_ => ?_); go_big_quiet_op; refine hK_ _ ?_; clear hK_ K_)
          (refine tree_quiet (by simp only [List.getElem?_toArray, List.getElem?_cons_succ, List.getElem?_cons_zero]; rfl) (by rfl) (by rfl) (fun K_ hK_ => ?_); go_big_quiet_op; refine hK_ _ ?_; clear hK_ K_)
          refine tree_nil ?_
          clear hG_
          go_wp2_with fail
          go_ret
          exact ⟨rfl, HV.out.drew⟩
        | false =>
          rw [hin, show atG r z = (0, 0) by rw [atG, if_neg (by rw [hin]; decide)]] at HAt
          simp only [glyphA] at HAt
          have hz : z < 0 ∨ (r.length : Int) ≤ z := by
            simp only [inG, Bool.and_eq_false_iff, decide_eq_false_iff_not] at hin
            omega
          clear hin
          generalize r.length = n9 at *
          by_cases hz0 : z < 0
          · have f0 : decide (0 ≤ z) = false := by simp only [decide_eq_false_iff_not]; omega
            clear hz hz0
            go_wp2_with (go_at_call 15; (with_reducible refine HAt.out.mono ?_); rintro e w6 ⟨rfl, hb6⟩; have h6z := hb6.size; have HB6 := Lib.hid (HB5.out.trans (hb6.mono hzr)); clear hb6)
            obtain ⟨V, hV⟩ : ∃ V, V = w6.alloc (.cells #[.int .i64 0, .int .i64 0] 38) := ⟨_, rfl⟩
            have y0 : V.cell? ⟨w6.heap.size, 0, none⟩ = some (.int .i64 0) := by rw [hV, hAC, if_pos rfl]; rfl
            have y1 : V.cell? ⟨w6.heap.size, 1, none⟩ = some (.int .i64 0) := by rw [hV, hAC, if_pos rfl]; rfl
            have hl0 := cell_lt y0
            simp only at hl0
            have HV := Lib.hid (show Below w.heap.size w V by rw [hV]; exact HB6.out.alloc HB6.out.size _)
            rw [← hV]
            clear hV
            refine wp_region_tree (.step 0 (.step 1 (.step 2 (.step 3 (.step 4 (.step 5 (.step 6 (.step 7 (.step 8 (.step 9 (.step 10 (.step 11 (.step 12 (.step 13 (.step 14 (.step 15 (.step 16 (.step 17 (.step 18 .nil))))))))))))))))))) (by kernel_rfl) (by kernel_rfl) (by kernel_rfl) (by kernel_rfl) (by intro _ _ d_ _ _ h_; cases d_ <;> first | exact h_ | (dsimp +zetaDelta only at h_ ⊢; exact h_)) (fun w' => ∃ p : Wld V [], w' = p.val) (wld_start _ _) ?_
            have hG_ := @wldC V
            (refine tree_quiet (by simp only [List.getElem?_toArray, List.getElem?_cons_succ, List.getElem?_cons_zero]; rfl) (by rfl) (by rfl) (fun K_ hK_ => ?_); go_big_quiet_op; refine hK_ _ ?_; clear hK_ K_)
            (refine tree_quiet (by simp only [List.getElem?_toArray, List.getElem?_cons_succ, List.getElem?_cons_zero]; rfl) (by rfl) (by rfl) (fun K_ hK_ => ?_); go_big_quiet_op; refine hK_ _ ?_; clear hK_ K_)
            refine tree_skip (by simp only [List.getElem?_toArray, List.getElem?_cons_succ, List.getElem?_cons_zero]; rfl) (by rfl) ?_; dsimp only [Act.put]; simp only [List.setIfInBounds_toArray, List.set_cons_succ, List.set_cons_zero]
            refine tree_skip (by simp only [List.getElem?_toArray, List.getElem?_cons_succ, List.getElem?_cons_zero]; rfl) (by rfl) ?_; dsimp only [Act.put]; simp only [List.setIfInBounds_toArray, List.set_cons_succ, List.set_cons_zero]
            refine tree_skip (by simp only [List.getElem?_toArray, List.getElem?_cons_succ, List.getElem?_cons_zero]; rfl) (by rfl) ?_; dsimp only [Act.put]; simp only [List.setIfInBounds_toArray, List.set_cons_succ, List.set_cons_zero]
            refine tree_skip (by simp only [List.getElem?_toArray, List.getElem?_cons_succ, List.getElem?_cons_zero]; rfl) (by rfl) ?_; dsimp only [Act.put]; simp only [List.setIfInBounds_toArray, List.set_cons_succ, List.set_cons_zero]
            refine tree_skip (by simp only [List.getElem?_toArray, List.getElem?_cons_succ, List.getElem?_cons_zero]; rfl) (by rfl) ?_; dsimp only [Act.put]; simp only [List.setIfInBounds_toArray, List.set_cons_succ, List.set_cons_zero]
            refine tree_skip (by simp only [List.getElem?_toArray, List.getElem?_cons_succ, List.getElem?_cons_zero]; rfl) (by rfl) ?_; dsimp only [Act.put]; simp only [List.setIfInBounds_toArray, List.set_cons_succ, List.set_cons_zero]
            (refine tree_quiet (by simp only [List.getElem?_toArray, List.getElem?_cons_succ, List.getElem?_cons_zero]; rfl) (by rfl) (by rfl) (fun K_ hK_ => ?_); go_big_quiet_op; refine hK_ _ ?_; clear hK_ K_)
            (refine tree_quiet (by simp only [List.getElem?_toArray, List.getElem?_cons_succ, List.getElem?_cons_zero]; rfl) (by rfl) (by rfl) (fun K_ hK_ => ?_); go_big_quiet_op; refine hK_ _ ?_; clear hK_ K_)
            (refine tree_quiet (by simp only [List.getElem?_toArray, List.getElem?_cons_succ, List.getElem?_cons_zero]; rfl) (by rfl) (by rfl) (fun K_ hK_ => ?_); go_big_quiet_op; refine hK_ _ ?_; clear hK_ K_)
            (refine tree_quiet (by simp only [List.getElem?_toArray, List.getElem?_cons_succ, List.getElem?_cons_zero]; rfl) (by rfl) (by rfl) (fun K_ hK_ => ?_); go_big_quiet_op; refine hK_ _ ?_; clear hK_ K_)
            (refine tree_quiet (by simp only [List.getElem?_toArray, List.getElem?_cons_succ, List.getElem?_cons_zero]; rfl) (by rfl) (by rfl) (fun K_ hK_ => ?_); go_big_quiet_op; refine hK_ _ ?_; clear hK_ K_)
            (refine tree_quiet (by simp only [List.getElem?_toArray, List.getElem?_cons_succ, List.getElem?_cons_zero]; rfl) (by rfl) (by rfl) (fun K_ hK_ => ?_); go_big_quiet_op; refine hK_ _ ?_; clear hK_ K_)
            (refine tree_quiet (by simp only [List.getElem?_toArray, List.getElem?_cons_succ, List.getElem?_cons_zero]; rfl) (by rfl) (by rfl) (fun K_ hK_ => ?_); go_big_quiet_op; refine hK_ _ ?_; clear hK_ K_)
            (refine tree_quiet (by simp only [List.getElem?_toArray, List.getElem?_cons_succ, List.getElem?_cons_zero]; rfl) (by rfl) (by rfl) (fun K_ hK_ => ?_); go_big_quiet_op; refine hK_ _ ?_; clear hK_ K_)
            (refine tree_quiet (by simp only [List.getElem?_toArray, List.getElem?_cons_succ, List.getElem?_cons_zero]; rfl) (by rfl) (by rfl) (fun K_ hK_ => ?_); go_big_quiet_op; refine hK_ _ ?_; clear hK_ K_)
            (refine tree_quiet (by simp only [List.getElem?_toArray, List.getElem?_cons_succ, List.getElem?_cons_zero]; rfl) (by rfl) (by rfl) (fun K_ hK_ => ?_); go_big_quiet_op; refine hK_ _ ?_; clear hK_ K_)
            (refine tree_quiet (by simp only [List.getElem?_toArray, List.getElem?_cons_succ, List.getElem?_cons_zero]; rfl) (by rfl) (by rfl) (fun K_ hK_ => ?_); go_big_quiet_op; refine hK_ _ ?_; clear hK_ K_)
            refine tree_nil ?_
            clear hG_
            go_wp2_with fail
            go_ret
            exact ⟨rfl, HV.out.drew⟩
          · have f0 : decide (0 ≤ z) = true := by simp only [decide_eq_true_eq]; omega
            have f1 : decide (z < (n9 : Int)) = false := by simp only [decide_eq_false_iff_not]; omega
            clear hz hz0
            go_wp2_with (go_at_call 15; (with_reducible refine HAt.out.mono ?_); rintro e w6 ⟨rfl, hb6⟩; have h6z := hb6.size; have HB6 := Lib.hid (HB5.out.trans (hb6.mono hzr)); clear hb6)
            obtain ⟨V, hV⟩ : ∃ V, V = w6.alloc (.cells #[.int .i64 0, .int .i64 0] 38) := ⟨_, rfl⟩
            have y0 : V.cell? ⟨w6.heap.size, 0, none⟩ = some (.int .i64 0) := by rw [hV, hAC, if_pos rfl]; rfl
            have y1 : V.cell? ⟨w6.heap.size, 1, none⟩ = some (.int .i64 0) := by rw [hV, hAC, if_pos rfl]; rfl
            have hl0 := cell_lt y0
            simp only at hl0
            have HV := Lib.hid (show Below w.heap.size w V by rw [hV]; exact HB6.out.alloc HB6.out.size _)
            rw [← hV]
            clear hV
            refine wp_region_tree (.step 0 (.step 1 (.step 2 (.step 3 (.step 4 (.step 5 (.step 6 (.step 7 (.step 8 (.step 9 (.step 10 (.step 11 (.step 12 (.step 13 (.step 14 (.step 15 (.step 16 (.step 17 (.step 18 .nil))))))))))))))))))) (by kernel_rfl) (by kernel_rfl) (by kernel_rfl) (by kernel_rfl) (by intro _ _ d_ _ _ h_; cases d_ <;> first | exact h_ | (dsimp +zetaDelta only at h_ ⊢; exact h_)) (fun w' => ∃ p : Wld V [], w' = p.val) (wld_start _ _) ?_
            have hG_ := @wldC V
            (refine tree_quiet (by simp only [List.getElem?_toArray, List.getElem?_cons_succ, List.getElem?_cons_zero]; rfl) (by rfl) (by rfl) (fun K_ hK_ => ?_); go_big_quiet_op; refine hK_ _ ?_; clear hK_ K_)
            (refine tree_quiet (by simp only [List.getElem?_toArray, List.getElem?_cons_succ, List.getElem?_cons_zero]; rfl) (by rfl) (by rfl) (fun K_ hK_ => ?_); go_big_quiet_op; refine hK_ _ ?_; clear hK_ K_)
            refine tree_skip (by simp only [List.getElem?_toArray, List.getElem?_cons_succ, List.getElem?_cons_zero]; rfl) (by rfl) ?_; dsimp only [Act.put]; simp only [List.setIfInBounds_toArray, List.set_cons_succ, List.set_cons_zero]
            refine tree_skip (by simp only [List.getElem?_toArray, List.getElem?_cons_succ, List.getElem?_cons_zero]; rfl) (by rfl) ?_; dsimp only [Act.put]; simp only [List.setIfInBounds_toArray, List.set_cons_succ, List.set_cons_zero]
            refine tree_skip (by simp only [List.getElem?_toArray, List.getElem?_cons_succ, List.getElem?_cons_zero]; rfl) (by rfl) ?_; dsimp only [Act.put]; simp only [List.setIfInBounds_toArray, List.set_cons_succ, List.set_cons_zero]
            refine tree_skip (by simp only [List.getElem?_toArray, List.getElem?_cons_succ, List.getElem?_cons_zero]; rfl) (by rfl) ?_; dsimp only [Act.put]; simp only [List.setIfInBounds_toArray, List.set_cons_succ, List.set_cons_zero]
            refine tree_skip (by simp only [List.getElem?_toArray, List.getElem?_cons_succ, List.getElem?_cons_zero]; rfl) (by rfl) ?_; dsimp only [Act.put]; simp only [List.setIfInBounds_toArray, List.set_cons_succ, List.set_cons_zero]
            refine tree_skip (by simp only [List.getElem?_toArray, List.getElem?_cons_succ, List.getElem?_cons_zero]; rfl) (by rfl) ?_; dsimp only [Act.put]; simp only [List.setIfInBounds_toArray, List.set_cons_succ, List.set_cons_zero]
            (refine tree_quiet (by simp only [List.getElem?_toArray, List.getElem?_cons_succ, List.getElem?_cons_zero]; rfl) (by rfl) (by rfl) (fun K_ hK_ => ?_); go_big_quiet_op; refine hK_ _ ?_; clear hK_ K_)
            (refine tree_quiet (by simp only [List.getElem?_toArray, List.getElem?_cons_succ, List.getElem?_cons_zero]; rfl) (by rfl) (by rfl) (fun K_ hK_ => ?_); go_big_quiet_op; refine hK_ _ ?_; clear hK_ K_)
            (refine tree_quiet (by simp only [List.getElem?_toArray, List.getElem?_cons_succ, List.getElem?_cons_zero]; rfl) (by rfl) (by rfl) (fun K_ hK_ => ?_); go_big_quiet_op; refine hK_ _ ?_; clear hK_ K_)
            (refine tree_quiet (by simp only [List.getElem?_toArray, List.getElem?_cons_succ, List.getElem?_cons_zero]; rfl) (by rfl) (by rfl) (fun K_ hK_ => ?_); go_big_quiet_op; refine hK_ _ ?_; clear hK_ K_)
            (refine tree_quiet (by simp only [List.getElem?_toArray, List.getElem?_cons_succ, List.getElem?_cons_zero]; rfl) (by rfl) (by rfl) (fun K_ hK_ => ?_); go_big_quiet_op; refine hK_ _ ?_; clear hK_ K_)
            (refine tree_quiet (by simp only [List.getElem?_toArray, List.getElem?_cons_succ, List.getElem?_cons_zero]; rfl) (by rfl) (by rfl) (fun K_ hK_ => ?_); go_big_quiet_op; refine hK_ _ ?_; clear hK_ K_)
            (refine tree_quiet (by simp only [List.getElem?_toArray, List.getElem?_cons_succ, List.getElem?_cons_zero]; rfl) (by rfl) (by rfl) (fun K_ hK_ => ?_); go_big_quiet_op; refine hK_ _ ?_; clear hK_ K_)
            (refine tree_quiet (by simp only [List.getElem?_toArray, List.getElem?_cons_succ, List.getElem?_cons_zero]; rfl) (by rfl) (by rfl) (fun K_ hK_ => ?_); go_big_quiet_op; refine hK_ _ ?_; clear hK_ K_)
            (refine tree_quiet (by simp only [List.getElem?_toArray, List.getElem?_cons_succ, List.getElem?_cons_zero]; rfl) (by rfl) (by rfl) (fun K_ hK_ => ?_); go_big_quiet_op; refine hK_ _ ?_; clear hK_ K_)
            (refine tree_quiet (by simp only [List.getElem?_toArray, List.getElem?_cons_succ, List.getElem?_cons_zero]; rfl) (by rfl) (by rfl) (fun K_ hK_ => ?_); go_big_quiet_op; refine hK_ _ ?_; clear hK_ K_)
            (refine tree_quiet (by simp only [List.getElem?_toArray, List.getElem?_cons_succ, List.getElem?_cons_zero]; rfl) (by rfl) (by rfl) (fun K_ hK_ => ?_); go_big_quiet_op; refine hK_ _ ?_; clear hK_ K_)
            refine tree_nil ?_
            clear hG_
            go_wp2_with fail
            go_ret
            exact ⟨rfl, HV.out.drew⟩

open Go.ChangeShapes Go.WideShapes Go.ChangeAt Go.RowKit
open Go.ChangeMaps (open_string shut_string)

set_option maxRecDepth 100000 in
theorem lineDoes_walks (H : Type) (enc : TypeId × Value → H) : Walks H enc 3 [22, 23, 3] := by
  intro W base args ds p hval hA _
  obtain ⟨v0, vs0, d0, ds0, p0, q0, hargs, rfl, rfl, h0, r0⟩ := trodAll_cons hA
  obtain ⟨v1, vs1, d1, ds1, p1, q1, rfl, rfl, rfl, h1, r1⟩ := trodAll_cons r0
  obtain ⟨v2, vs2, d2, ds2, p2, q2, rfl, rfl, rfl, h2, r2⟩ := trodAll_cons r1
  obtain ⟨rfl, rfl, rfl⟩ := trodAll_nil r2
  obtain rfl : args = #[v0, v1, v2] := by cases args; simp_all
  obtain ⟨a, n, c, ids, rfl, hl, _, _, _, hi, _⟩ := open_ids (hval 0 22 v0 rfl rfl) h0
  obtain ⟨ao, N, co, os, rfl, hol, ho, hos⟩ := open_ops (hval 1 23 v1 rfl rfl) h1
  obtain ⟨z2, rfl, t2⟩ := open_int Try.underlying3 (hval 2 3 v2 rfl rfl) h2
  exact lineDoes_walk a n c ids ao N co os z2 W hi hl ho hol hos

set_option maxRecDepth 100000 in
theorem lineDoes_lifted (os : Os) (started : os.Started) (H : Type) (enc : TypeId × Value → H) :
    ReturnsInHanded {} Try.checked os 3 .any (Rows.lineDoesSpec.pre6 enc Try.prog Try.f3 Rows.lineDoesRow.domain false) (Rows.lineDoesSpec.post enc Try.prog Try.f3 false true false false) :=
  lift_law (s := Rows.lineDoesSpec) (fn := Try.f3) started (by kernel_rfl) Try.func3
    (ChangeSpec.witness6 (enc := enc) (C := Try.checked) false ⟨#[], #[.slice none 0 0, .slice none 0 0, .int .i64 0], []⟩ 8 (by kernel_rfl) (by kernel_rfl) (by kernel_rfl) (by kernel_rfl))
    rfl rfl (fun ds h => by match ds, h with | [d0, d1, d2], _ => rfl) (by intro t ht; simp [Try.params3] at ht; first | (subst ht; exact ⟨by kernel_rfl, of_decide_eq_true (by kernel_rfl)⟩) | (obtain rfl | rfl := ht <;> exact ⟨by kernel_rfl, of_decide_eq_true (by kernel_rfl)⟩) | (obtain rfl | rfl | rfl := ht <;> exact ⟨by kernel_rfl, of_decide_eq_true (by kernel_rfl)⟩) | (obtain rfl | rfl | rfl | rfl := ht <;> exact ⟨by kernel_rfl, of_decide_eq_true (by kernel_rfl)⟩))
    (by rw [Try.params3]; exact lineDoes_walks H enc)
theorem lineDoes_over : Rows.lineDoesRow.holds Try.pinned (OpenSpec.ofChange Rows.lineDoesSpec) :=
  OpenClaim.holds_of_wide 3 Try.f3 rfl rfl rfl rfl rfl rfl rfl ⟨rfl, rfl, rfl, rfl, rfl⟩ rfl rfl rfl rfl rfl (by kernel_rfl) Try.func3 (by kernel_rfl)
    (of_decide_eq_true (by kernel_rfl)) (by unfold Func.isWrapper; first | (rw [if_pos (by decide +kernel)]; kernel_rfl) | (rw [if_neg (by decide +kernel)]; exact ⟨rfl, rfl⟩))
    (fun os started H enc _ => lineDoes_lifted os started H enc)
theorem lineDoes_proved : Rows.LineDoesSaid := lineDoes_over
#print axioms lineDoes_proved
end Go.Proofs.Ytjkddbbjbfajaaa
