
/- LineTwice returns true for every line, every place and every numbers, and changes nothing: turned twice a line is what it was; what is inserted, and deleted again, is gone. No condition beside the row's own. -/
import Derived.Test.YtjkddbbjbfajaaaGSpeak
import Derived.Test.YtjkddbbjbfajaaaGFrame
import Derived.Test.YtjkddbbjbfajaaaGDel
namespace Go.Proofs.Ytjkddbbjbfajaaa
open Go.RowKit Go.Lib

theorem info_intG : (Try.prog.info? 3).map (fun i => (i.zero, i.size, i.bytes)) = some (some (.int .i64 0), 1, 8) := by kernel_rfl
/-- A slice of numbers of the call's own. -/
def IRow (B : Nat) (l : List Int) (v : Value) (w : World) : Prop := ∃ a c, v = .slice a l.length c ∧ w.ownsRow B 3 1 (.slice a l.length c) l.length (iv l)
theorem clean_insG (l : List (Int × Int)) (z : Int) (m : Nat) : cleanG (insG l z (List.replicate m 65535)) = cleanG l := by
  unfold insG
  split
  · have e : cleanG ((List.replicate m (65535 : Int)).map fun x => (x, insC l z.toNat)) = [] := by
      rw [cleanG, List.filter_eq_nil_iff]
      intro p hp
      simp only [List.mem_map] at hp
      obtain ⟨x, hx, rfl⟩ := hp
      rw [List.eq_of_mem_replicate hx]
      simp
    have e2 : ∀ a b : List (Int × Int), cleanG (a ++ b) = cleanG a ++ cleanG b := fun a b => by simp [cleanG]
    rw [e2, e2, e, List.nil_append, ← e2, List.take_append_drop]
  · rfl
set_option maxHeartbeats 3200000 in
set_option maxRecDepth 100000 in
theorem lineTwice_walk (a : Option Addr) (n c : Nat) (l : List (Int × Int)) (z : Int) (ai : Option Addr) (m ci : Nat) (ids : List Int) (w : World) (h : Has w a (gv l)) (hl : l.length = n) :
    Calls Try.prog 4 #[.slice a n c, .int .i64 z, .slice ai m ci] w fun e w' => e = .returned (.bool true) ∧ Below w.heap.size w w' := by
  have hAC := allocC
  have hAF := allocF
  have HSP := Lib.hid (fun W => speaks11_any W)
  have HH := Lib.hid h
  have HL := Lib.hid hl
  clear h hl
  by_cases hbig : 60 < n
  · have d1 : decide (60 < (n : Int)) = true := by simp; omega
    go_enter Try.func4, Try.ntmps4
    go_wp2_with (first | (go_at_call 7; (with_reducible refine (HSP.out _).mono ?_); rintro e w1 ⟨rfl, hb1⟩; have h1c := bc hb1; have h1f := bf hb1; have h1z := hb1.size; try simp only [World.size_alloc, World.size_drew] at h1z))
    go_ret
    exact ⟨rfl, blw⟩
  have d1 : decide (60 < (n : Int)) = false := by simp; omega
  by_cases hbig2 : 40 < m
  · have d2 : decide (40 < (m : Int)) = true := by simp; omega
    go_enter Try.func4, Try.ntmps4
    go_wp2_with (first | (go_at_call 7; (with_reducible refine (HSP.out _).mono ?_); rintro e w1 ⟨rfl, hb1⟩; have h1c := bc hb1; have h1f := bf hb1; have h1z := hb1.size; try simp only [World.size_alloc, World.size_drew] at h1z))
    go_ret
    exact ⟨rfl, blw⟩
  have d2 : decide (40 < (m : Int)) = false := by simp; omega
  have HCI := Lib.hid (clean_insG l z m)
  obtain ⟨R, hR⟩ : ∃ R, R = insG l z (List.replicate m 65535) := ⟨_, rfl⟩
  rw [← hR] at HCI
  have hRl : R.length ≤ 200 := by
    have := insG_length l z (List.replicate m 65535)
    rw [← hR, HL.out, List.length_replicate] at this
    omega
  have HR := Lib.hid hR
  have HRL := Lib.hid hRl
  clear hR hRl
  by_cases hz0 : z < 0
  · have hok : okI l z = false := by simp only [okI, HL.out, Bool.and_eq_false_iff, decide_eq_false_iff_not]; omega
    have HOK := Lib.hid hok
    have d3 : decide (0 ≤ z) = false := by simp only [decide_eq_false_iff_not]; omega
    clear hok hz0
    go_enter Try.func4, Try.ntmps4
    go_wp2_with (first
      | (go_at_call 7; (with_reducible refine (HSP.out _).mono ?_); rintro e w1 ⟨rfl, hb1⟩; have h1c := bc hb1; have h1f := bf hb1; have h1z := hb1.size; try simp only [World.size_alloc, World.size_drew] at h1z)
      | (go_at_call 16; (with_reducible refine (gof_any a n c l w1 (HH.out.below hb1) HL.out (by omega)).mono ?_); rintro e w2 ⟨g, a2, c2, rfl, hG, hgg, hb2⟩; have HG2 := Lib.hid hG; have HB2 := Lib.hid (hb1.trans (hb2.mono h1z)); have hz2 := hb2.size; clear hG hb2)
      | (go_at_call 17; (with_reducible refine (gturn_any w1.heap.size g a2 c2 l w2 HG2.out (by rw [HL.out]; omega)).mono ?_); rintro e w3 ⟨rfl, hG, hS⟩; have HG3 := Lib.hid hG; have HB3 := Lib.hid (HB2.out.trans (hS.below.mono h1z)); clear hG hS)
      | (go_at_call 17; (with_reducible refine (gturn_any w1.heap.size g a2 c2 l.reverse w3 HG3.out (by rw [List.length_reverse, HL.out]; omega)).mono ?_); rintro e w4 ⟨rfl, hG, hS⟩; rw [List.reverse_reverse] at hG; have HG4 := Lib.hid hG; have HB4 := Lib.hid (HB3.out.trans (hS.below.mono h1z)); clear hG hS)
      | (go_at_call 13; (with_reducible refine (gglyphs_any _ g a2 c2 l w4 HG4.out (by rw [HL.out]; omega)).mono ?_); rintro e w5 ⟨a5, c5, rfl, ho, _, _, _, hb5⟩; rw [HL.out] at ho; rw [HL.out]; have HM5 := Lib.hid ho; have HG5 := Lib.hid (HG4.out.below hb5); have HB5 := Lib.hid (HB4.out.trans (hb5.mono HB4.out.size)); clear ho hb5)
      | (go_at_call 12; (with_reducible refine (refSameG_any a5 a n c5 n c l l w5 (has_of_owns HM5.out) HL.out (HH.out.below HB5.out) HL.out (by omega) (by omega)).mono ?_); rintro e w6 ⟨rfl, hb6⟩; rw [decide_eq_true rfl]; have HG6 := Lib.hid (HG5.out.below hb6); have HB6 := Lib.hid (HB5.out.trans (hb6.mono HB5.out.size)); clear hb6))
    have hgw := (Array.getElem?_eq_some_iff.1 HG6.out.hd).1
    have HRW := Lib.hid (fun q (hq : a2 = some q) => HG6.out.row.lt q.block (by rw [hq]; rfl))
    have hz6 : w.heap.size ≤ w6.heap.size := HB6.out.size
    have hz16 : w1.heap.size ≤ w6.heap.size := by omega
    clear HG2 HG3 HG4 HG5 HB2 HB3 HB4 HB5 HM5
    go_loopw [8, 34] (fun v i wr => ∃ j : Nat, j ≤ m ∧ i = .int .i64 (j : Nat) ∧ IRow w6.heap.size (List.replicate j 65535) v wr ∧ Below w6.heap.size w6 wr) (fun _ i _ => m - (intOf i).toNat)
    case atStart => exact ⟨0, Nat.zero_le _, rfl, ⟨none, 0, rfl, World.ownsRow_nil _ _ _ _⟩, Below.refl _ _⟩
    case round =>
      obtain ⟨j, hj, rfl, hx, hb⟩ := hrel
      have HX := Lib.hid hx
      have HB := Lib.hid hb
      have hzr := hb.size
      clear hx hb
      by_cases hlt : j < m
      · obtain ⟨ax, cx, rfl, hox⟩ := HX.out
        have hll : (List.replicate j (65535 : Int)).length = j := List.length_replicate
        rw [hll] at hox ⊢
        have HOX := Lib.hid hox
        clear hox HX
        go_wp2_with (at_builtin; refine wpApp rfl _ _ 22 rfl w6.heap.size 3 (.int .i64 0) 1 8 Try.underlying22 info_intG rfl (by decide) _ j (iv (List.replicate j 65535)) rfl (owns_below HOX.out (balloc (brefl wr) _) (Nat.le_refl _)) (some ⟨wr.heap.size, 0, none⟩) 1 1 (iv [65535]) rfl (by rfl) (has_alloc wr _ _) (fun h => by cases h) (by intro u hu; simp [iv] at hu; subst hu; rfl) (by unfold maxLen; omega) (by omega) (by simp; omega) ?_; intro a8 c8 w8 ho8 k81 k82 k83 hb8 hg8; have HO8 := Lib.hid ho8; have HB8 := Lib.hid ((HB.out.alloc HB.out.size _).trans hb8); clear ho8 hb8 hg8)
        go_roundw
        case rel =>
          refine ⟨j + 1, hlt, by go_num, ⟨a8, c8, by rw [List.length_replicate], ?_⟩, HB8.out⟩
          have := HO8.out
          rw [show iv (List.replicate j 65535) ++ iv [65535] = iv (List.replicate (j + 1) 65535) by rw [List.replicate_succ']; simp [iv]] at this
          rw [List.length_replicate]
          exact this
        case measure => simp [intOf]; omega
      · obtain rfl : m = j := by omega
        obtain ⟨ax, cx, rfl, hox⟩ := HX.out
        have hll : (List.replicate m (65535 : Int)).length = m := List.length_replicate
        rw [hll] at hox ⊢
        have HOX := Lib.hid (has_of_owns hox)
        have HG7 := Lib.hid (HG6.out.below HB.out)
        have HBW := Lib.hid (HB6.out.trans (HB.out.mono hz6))
        clear hox HX
        go_wp2_with (first
          | (go_at_call 16; (with_reducible refine (gof_any a n c l wr (HH.out.below HBW.out) HL.out (by omega)).mono ?_); rintro e v2 ⟨gy, ay, cy, rfl, hG, hgy, hb2⟩; have HY2 := Lib.hid hG; have HYB := Lib.hid hb2; have HG8 := Lib.hid (HG7.out.below hb2); have HOX2 := Lib.hid (HOX.out.below hb2); have HV2 := Lib.hid (HBW.out.trans (hb2.mono HBW.out.size)); have hv2 := hb2.size; clear hG hb2)
          | (go_at_call 18; (with_reducible refine (gclean_any wr.heap.size gy ay cy l v2 HY2.out hgy hv2 (by rw [HL.out]; omega)).mono ?_); rintro e v3 ⟨cy3, rfl, hG, hS⟩; have HY3 := Lib.hid hG; have HV3S := Lib.hid (Nat.le_trans hv2 hS.below.size); have HV3 := Lib.hid (HV2.out.trans (hS.below.mono HBW.out.size)); have HG9 := Lib.hid (HG7.out.below (show Below wr.heap.size wr v3 from HYB.out.trans hS.below)); have HOX3 := Lib.hid (HOX.out.below (show Below wr.heap.size wr v3 from HYB.out.trans hS.below)); clear hG hS)
          | (go_at_call 13; (with_reducible refine (gglyphs_any _ gy ay cy3 (cleanG l) v3 HY3.out (Nat.le_trans (cleanG_length l) (by rw [HL.out]; omega))).mono ?_); rintro e v4 ⟨a4, c4, rfl, ho, _, _, _, hb4⟩; have HC4 := Lib.hid ho; have HCB := Lib.hid (fun p (hp : a4 = some p) => ho.lt p.block (by rw [hp]; rfl)); have HG10 := Lib.hid (HG9.out.below hb4); have HOX4 := Lib.hid (HOX3.out.below hb4); have HV4 := Lib.hid (HV3.out.trans (hb4.mono HV3.out.size)); have hv4 := hb4.size; have hv3 : wr.heap.size ≤ v3.heap.size := HV3S.out; clear ho hb4)
          | (go_at_call 19; (with_reducible refine (gins_any w1.heap.size g a2 c2 l z ax m cx (List.replicate m 65535) v4 HG10.out HOX4.out List.length_replicate hgg (by omega) (by rw [HL.out]; omega) (by omega)).mono ?_); rintro e v5 ⟨a5', c5', rfl, hG, hS⟩; rw [HOK.out]; rw [← HR.out] at hG; have HG11 := Lib.hid hG; have HS5 := Lib.hid hS; have HV5 := Lib.hid (HV4.out.trans (hS.below.mono h1z)); have hv5 := hS.below.size; clear hG hS)
          | (go_at_call 18; (with_reducible refine (gclean_any w1.heap.size g a5' c5' R v5 HG11.out hgg (by omega) (by have := HRL.out; omega)).mono ?_); rintro e v6 ⟨c6', rfl, hG, hS⟩; have HG12 := Lib.hid hG; have HS6 := Lib.hid (HS5.out.trans hS); have HV6 := Lib.hid (HV5.out.trans (hS.below.mono h1z)); clear hG hS)
          | (go_at_call 13; (with_reducible refine (gglyphs_any _ g a5' c6' (cleanG R) v6 HG12.out (Nat.le_trans (cleanG_length R) (by have := HRL.out; omega))).mono ?_); rintro e v7 ⟨a7, c7, rfl, ho, _, _, _, hb7⟩; have HM7 := Lib.hid ho; have HB7 := Lib.hid hb7; have HV7 := Lib.hid (HV6.out.trans (hb7.mono HV6.out.size)); clear ho hb7)
          | (go_at_call 12; (with_reducible refine (refSameG_any a7 a4 (cleanG R).length c7 (cleanG l).length c4 (cleanG R) (cleanG l) v7 (has_of_owns HM7.out) rfl ((HS6.out.has (has_of_owns HC4.out) (fun p hp => by have := HCB.out p hp; omega) (fun p q hp hq => by have := HCB.out p hp; have := HRW.out q hq; omega)).below HB7.out) rfl (Nat.le_trans (cleanG_length R) (by have := HRL.out; omega)) (Nat.le_trans (cleanG_length l) (by rw [HL.out]; omega))).mono ?_); rintro e v8 ⟨rfl, hb8⟩; have HV8 := Lib.hid (HV7.out.trans (hb8.mono HV7.out.size)); clear hb8))
        go_ret
        exact ⟨by rw [HCI.out]; simp, HV8.out⟩
  by_cases hz1 : (n : Int) < z
  · have hok : okI l z = false := by simp only [okI, HL.out, Bool.and_eq_false_iff, decide_eq_false_iff_not]; omega
    have HOK := Lib.hid hok
    have d3 : decide (0 ≤ z) = true := by simp only [decide_eq_true_eq]; omega
    have d4 : decide (z ≤ (n : Int)) = false := by simp only [decide_eq_false_iff_not]; omega
    clear hok hz0 hz1
    go_enter Try.func4, Try.ntmps4
    go_wp2_with (first
      | (go_at_call 7; (with_reducible refine (HSP.out _).mono ?_); rintro e w1 ⟨rfl, hb1⟩; have h1c := bc hb1; have h1f := bf hb1; have h1z := hb1.size; try simp only [World.size_alloc, World.size_drew] at h1z)
      | (go_at_call 16; (with_reducible refine (gof_any a n c l w1 (HH.out.below hb1) HL.out (by omega)).mono ?_); rintro e w2 ⟨g, a2, c2, rfl, hG, hgg, hb2⟩; have HG2 := Lib.hid hG; have HB2 := Lib.hid (hb1.trans (hb2.mono h1z)); have hz2 := hb2.size; clear hG hb2)
      | (go_at_call 17; (with_reducible refine (gturn_any w1.heap.size g a2 c2 l w2 HG2.out (by rw [HL.out]; omega)).mono ?_); rintro e w3 ⟨rfl, hG, hS⟩; have HG3 := Lib.hid hG; have HB3 := Lib.hid (HB2.out.trans (hS.below.mono h1z)); clear hG hS)
      | (go_at_call 17; (with_reducible refine (gturn_any w1.heap.size g a2 c2 l.reverse w3 HG3.out (by rw [List.length_reverse, HL.out]; omega)).mono ?_); rintro e w4 ⟨rfl, hG, hS⟩; rw [List.reverse_reverse] at hG; have HG4 := Lib.hid hG; have HB4 := Lib.hid (HB3.out.trans (hS.below.mono h1z)); clear hG hS)
      | (go_at_call 13; (with_reducible refine (gglyphs_any _ g a2 c2 l w4 HG4.out (by rw [HL.out]; omega)).mono ?_); rintro e w5 ⟨a5, c5, rfl, ho, _, _, _, hb5⟩; rw [HL.out] at ho; rw [HL.out]; have HM5 := Lib.hid ho; have HG5 := Lib.hid (HG4.out.below hb5); have HB5 := Lib.hid (HB4.out.trans (hb5.mono HB4.out.size)); clear ho hb5)
      | (go_at_call 12; (with_reducible refine (refSameG_any a5 a n c5 n c l l w5 (has_of_owns HM5.out) HL.out (HH.out.below HB5.out) HL.out (by omega) (by omega)).mono ?_); rintro e w6 ⟨rfl, hb6⟩; rw [decide_eq_true rfl]; have HG6 := Lib.hid (HG5.out.below hb6); have HB6 := Lib.hid (HB5.out.trans (hb6.mono HB5.out.size)); clear hb6))
    have hgw := (Array.getElem?_eq_some_iff.1 HG6.out.hd).1
    have HRW := Lib.hid (fun q (hq : a2 = some q) => HG6.out.row.lt q.block (by rw [hq]; rfl))
    have hz6 : w.heap.size ≤ w6.heap.size := HB6.out.size
    have hz16 : w1.heap.size ≤ w6.heap.size := by omega
    clear HG2 HG3 HG4 HG5 HB2 HB3 HB4 HB5 HM5
    go_loopw [8, 34] (fun v i wr => ∃ j : Nat, j ≤ m ∧ i = .int .i64 (j : Nat) ∧ IRow w6.heap.size (List.replicate j 65535) v wr ∧ Below w6.heap.size w6 wr) (fun _ i _ => m - (intOf i).toNat)
    case atStart => exact ⟨0, Nat.zero_le _, rfl, ⟨none, 0, rfl, World.ownsRow_nil _ _ _ _⟩, Below.refl _ _⟩
    case round =>
      obtain ⟨j, hj, rfl, hx, hb⟩ := hrel
      have HX := Lib.hid hx
      have HB := Lib.hid hb
      have hzr := hb.size
      clear hx hb
      by_cases hlt : j < m
      · obtain ⟨ax, cx, rfl, hox⟩ := HX.out
        have hll : (List.replicate j (65535 : Int)).length = j := List.length_replicate
        rw [hll] at hox ⊢
        have HOX := Lib.hid hox
        clear hox HX
        go_wp2_with (at_builtin; refine wpApp rfl _ _ 22 rfl w6.heap.size 3 (.int .i64 0) 1 8 Try.underlying22 info_intG rfl (by decide) _ j (iv (List.replicate j 65535)) rfl (owns_below HOX.out (balloc (brefl wr) _) (Nat.le_refl _)) (some ⟨wr.heap.size, 0, none⟩) 1 1 (iv [65535]) rfl (by rfl) (has_alloc wr _ _) (fun h => by cases h) (by intro u hu; simp [iv] at hu; subst hu; rfl) (by unfold maxLen; omega) (by omega) (by simp; omega) ?_; intro a8 c8 w8 ho8 k81 k82 k83 hb8 hg8; have HO8 := Lib.hid ho8; have HB8 := Lib.hid ((HB.out.alloc HB.out.size _).trans hb8); clear ho8 hb8 hg8)
        go_roundw
        case rel =>
          refine ⟨j + 1, hlt, by go_num, ⟨a8, c8, by rw [List.length_replicate], ?_⟩, HB8.out⟩
          have := HO8.out
          rw [show iv (List.replicate j 65535) ++ iv [65535] = iv (List.replicate (j + 1) 65535) by rw [List.replicate_succ']; simp [iv]] at this
          rw [List.length_replicate]
          exact this
        case measure => simp [intOf]; omega
      · obtain rfl : m = j := by omega
        obtain ⟨ax, cx, rfl, hox⟩ := HX.out
        have hll : (List.replicate m (65535 : Int)).length = m := List.length_replicate
        rw [hll] at hox ⊢
        have HOX := Lib.hid (has_of_owns hox)
        have HG7 := Lib.hid (HG6.out.below HB.out)
        have HBW := Lib.hid (HB6.out.trans (HB.out.mono hz6))
        clear hox HX
        go_wp2_with (first
          | (go_at_call 16; (with_reducible refine (gof_any a n c l wr (HH.out.below HBW.out) HL.out (by omega)).mono ?_); rintro e v2 ⟨gy, ay, cy, rfl, hG, hgy, hb2⟩; have HY2 := Lib.hid hG; have HYB := Lib.hid hb2; have HG8 := Lib.hid (HG7.out.below hb2); have HOX2 := Lib.hid (HOX.out.below hb2); have HV2 := Lib.hid (HBW.out.trans (hb2.mono HBW.out.size)); have hv2 := hb2.size; clear hG hb2)
          | (go_at_call 18; (with_reducible refine (gclean_any wr.heap.size gy ay cy l v2 HY2.out hgy hv2 (by rw [HL.out]; omega)).mono ?_); rintro e v3 ⟨cy3, rfl, hG, hS⟩; have HY3 := Lib.hid hG; have HV3S := Lib.hid (Nat.le_trans hv2 hS.below.size); have HV3 := Lib.hid (HV2.out.trans (hS.below.mono HBW.out.size)); have HG9 := Lib.hid (HG7.out.below (show Below wr.heap.size wr v3 from HYB.out.trans hS.below)); have HOX3 := Lib.hid (HOX.out.below (show Below wr.heap.size wr v3 from HYB.out.trans hS.below)); clear hG hS)
          | (go_at_call 13; (with_reducible refine (gglyphs_any _ gy ay cy3 (cleanG l) v3 HY3.out (Nat.le_trans (cleanG_length l) (by rw [HL.out]; omega))).mono ?_); rintro e v4 ⟨a4, c4, rfl, ho, _, _, _, hb4⟩; have HC4 := Lib.hid ho; have HCB := Lib.hid (fun p (hp : a4 = some p) => ho.lt p.block (by rw [hp]; rfl)); have HG10 := Lib.hid (HG9.out.below hb4); have HOX4 := Lib.hid (HOX3.out.below hb4); have HV4 := Lib.hid (HV3.out.trans (hb4.mono HV3.out.size)); have hv4 := hb4.size; have hv3 : wr.heap.size ≤ v3.heap.size := HV3S.out; clear ho hb4)
          | (go_at_call 19; (with_reducible refine (gins_any w1.heap.size g a2 c2 l z ax m cx (List.replicate m 65535) v4 HG10.out HOX4.out List.length_replicate hgg (by omega) (by rw [HL.out]; omega) (by omega)).mono ?_); rintro e v5 ⟨a5', c5', rfl, hG, hS⟩; rw [HOK.out]; rw [← HR.out] at hG; have HG11 := Lib.hid hG; have HS5 := Lib.hid hS; have HV5 := Lib.hid (HV4.out.trans (hS.below.mono h1z)); have hv5 := hS.below.size; clear hG hS)
          | (go_at_call 18; (with_reducible refine (gclean_any w1.heap.size g a5' c5' R v5 HG11.out hgg (by omega) (by have := HRL.out; omega)).mono ?_); rintro e v6 ⟨c6', rfl, hG, hS⟩; have HG12 := Lib.hid hG; have HS6 := Lib.hid (HS5.out.trans hS); have HV6 := Lib.hid (HV5.out.trans (hS.below.mono h1z)); clear hG hS)
          | (go_at_call 13; (with_reducible refine (gglyphs_any _ g a5' c6' (cleanG R) v6 HG12.out (Nat.le_trans (cleanG_length R) (by have := HRL.out; omega))).mono ?_); rintro e v7 ⟨a7, c7, rfl, ho, _, _, _, hb7⟩; have HM7 := Lib.hid ho; have HB7 := Lib.hid hb7; have HV7 := Lib.hid (HV6.out.trans (hb7.mono HV6.out.size)); clear ho hb7)
          | (go_at_call 12; (with_reducible refine (refSameG_any a7 a4 (cleanG R).length c7 (cleanG l).length c4 (cleanG R) (cleanG l) v7 (has_of_owns HM7.out) rfl ((HS6.out.has (has_of_owns HC4.out) (fun p hp => by have := HCB.out p hp; omega) (fun p q hp hq => by have := HCB.out p hp; have := HRW.out q hq; omega)).below HB7.out) rfl (Nat.le_trans (cleanG_length R) (by have := HRL.out; omega)) (Nat.le_trans (cleanG_length l) (by rw [HL.out]; omega))).mono ?_); rintro e v8 ⟨rfl, hb8⟩; have HV8 := Lib.hid (HV7.out.trans (hb8.mono HV7.out.size)); clear hb8))
        go_ret
        exact ⟨by rw [HCI.out]; simp, HV8.out⟩
  · have hok : okI l z = true := by simp only [okI, HL.out, Bool.and_eq_true, decide_eq_true_eq]; omega
    have HOK := Lib.hid hok
    have d3 : decide (0 ≤ z) = true := by simp only [decide_eq_true_eq]; omega
    have d4 : decide (z ≤ (n : Int)) = true := by simp only [decide_eq_true_eq]; omega
    clear hok hz0 hz1
    go_enter Try.func4, Try.ntmps4
    go_wp2_with (first
      | (go_at_call 7; (with_reducible refine (HSP.out _).mono ?_); rintro e w1 ⟨rfl, hb1⟩; have h1c := bc hb1; have h1f := bf hb1; have h1z := hb1.size; try simp only [World.size_alloc, World.size_drew] at h1z)
      | (go_at_call 16; (with_reducible refine (gof_any a n c l w1 (HH.out.below hb1) HL.out (by omega)).mono ?_); rintro e w2 ⟨g, a2, c2, rfl, hG, hgg, hb2⟩; have HG2 := Lib.hid hG; have HB2 := Lib.hid (hb1.trans (hb2.mono h1z)); have hz2 := hb2.size; clear hG hb2)
      | (go_at_call 17; (with_reducible refine (gturn_any w1.heap.size g a2 c2 l w2 HG2.out (by rw [HL.out]; omega)).mono ?_); rintro e w3 ⟨rfl, hG, hS⟩; have HG3 := Lib.hid hG; have HB3 := Lib.hid (HB2.out.trans (hS.below.mono h1z)); clear hG hS)
      | (go_at_call 17; (with_reducible refine (gturn_any w1.heap.size g a2 c2 l.reverse w3 HG3.out (by rw [List.length_reverse, HL.out]; omega)).mono ?_); rintro e w4 ⟨rfl, hG, hS⟩; rw [List.reverse_reverse] at hG; have HG4 := Lib.hid hG; have HB4 := Lib.hid (HB3.out.trans (hS.below.mono h1z)); clear hG hS)
      | (go_at_call 13; (with_reducible refine (gglyphs_any _ g a2 c2 l w4 HG4.out (by rw [HL.out]; omega)).mono ?_); rintro e w5 ⟨a5, c5, rfl, ho, _, _, _, hb5⟩; rw [HL.out] at ho; rw [HL.out]; have HM5 := Lib.hid ho; have HG5 := Lib.hid (HG4.out.below hb5); have HB5 := Lib.hid (HB4.out.trans (hb5.mono HB4.out.size)); clear ho hb5)
      | (go_at_call 12; (with_reducible refine (refSameG_any a5 a n c5 n c l l w5 (has_of_owns HM5.out) HL.out (HH.out.below HB5.out) HL.out (by omega) (by omega)).mono ?_); rintro e w6 ⟨rfl, hb6⟩; rw [decide_eq_true rfl]; have HG6 := Lib.hid (HG5.out.below hb6); have HB6 := Lib.hid (HB5.out.trans (hb6.mono HB5.out.size)); clear hb6))
    have hgw := (Array.getElem?_eq_some_iff.1 HG6.out.hd).1
    have HRW := Lib.hid (fun q (hq : a2 = some q) => HG6.out.row.lt q.block (by rw [hq]; rfl))
    have hz6 : w.heap.size ≤ w6.heap.size := HB6.out.size
    have hz16 : w1.heap.size ≤ w6.heap.size := by omega
    clear HG2 HG3 HG4 HG5 HB2 HB3 HB4 HB5 HM5
    go_loopw [8, 34] (fun v i wr => ∃ j : Nat, j ≤ m ∧ i = .int .i64 (j : Nat) ∧ IRow w6.heap.size (List.replicate j 65535) v wr ∧ Below w6.heap.size w6 wr) (fun _ i _ => m - (intOf i).toNat)
    case atStart => exact ⟨0, Nat.zero_le _, rfl, ⟨none, 0, rfl, World.ownsRow_nil _ _ _ _⟩, Below.refl _ _⟩
    case round =>
      obtain ⟨j, hj, rfl, hx, hb⟩ := hrel
      have HX := Lib.hid hx
      have HB := Lib.hid hb
      have hzr := hb.size
      clear hx hb
      by_cases hlt : j < m
      · obtain ⟨ax, cx, rfl, hox⟩ := HX.out
        have hll : (List.replicate j (65535 : Int)).length = j := List.length_replicate
        rw [hll] at hox ⊢
        have HOX := Lib.hid hox
        clear hox HX
        go_wp2_with (at_builtin; refine wpApp rfl _ _ 22 rfl w6.heap.size 3 (.int .i64 0) 1 8 Try.underlying22 info_intG rfl (by decide) _ j (iv (List.replicate j 65535)) rfl (owns_below HOX.out (balloc (brefl wr) _) (Nat.le_refl _)) (some ⟨wr.heap.size, 0, none⟩) 1 1 (iv [65535]) rfl (by rfl) (has_alloc wr _ _) (fun h => by cases h) (by intro u hu; simp [iv] at hu; subst hu; rfl) (by unfold maxLen; omega) (by omega) (by simp; omega) ?_; intro a8 c8 w8 ho8 k81 k82 k83 hb8 hg8; have HO8 := Lib.hid ho8; have HB8 := Lib.hid ((HB.out.alloc HB.out.size _).trans hb8); clear ho8 hb8 hg8)
        go_roundw
        case rel =>
          refine ⟨j + 1, hlt, by go_num, ⟨a8, c8, by rw [List.length_replicate], ?_⟩, HB8.out⟩
          have := HO8.out
          rw [show iv (List.replicate j 65535) ++ iv [65535] = iv (List.replicate (j + 1) 65535) by rw [List.replicate_succ']; simp [iv]] at this
          rw [List.length_replicate]
          exact this
        case measure => simp [intOf]; omega
      · obtain rfl : m = j := by omega
        obtain ⟨ax, cx, rfl, hox⟩ := HX.out
        have hll : (List.replicate m (65535 : Int)).length = m := List.length_replicate
        rw [hll] at hox ⊢
        have HOX := Lib.hid (has_of_owns hox)
        have HG7 := Lib.hid (HG6.out.below HB.out)
        have HBW := Lib.hid (HB6.out.trans (HB.out.mono hz6))
        clear hox HX
        go_wp2_with (first
          | (go_at_call 16; (with_reducible refine (gof_any a n c l wr (HH.out.below HBW.out) HL.out (by omega)).mono ?_); rintro e v2 ⟨gy, ay, cy, rfl, hG, hgy, hb2⟩; have HY2 := Lib.hid hG; have HYB := Lib.hid hb2; have HG8 := Lib.hid (HG7.out.below hb2); have HOX2 := Lib.hid (HOX.out.below hb2); have HV2 := Lib.hid (HBW.out.trans (hb2.mono HBW.out.size)); have hv2 := hb2.size; clear hG hb2)
          | (go_at_call 18; (with_reducible refine (gclean_any wr.heap.size gy ay cy l v2 HY2.out hgy hv2 (by rw [HL.out]; omega)).mono ?_); rintro e v3 ⟨cy3, rfl, hG, hS⟩; have HY3 := Lib.hid hG; have HV3S := Lib.hid (Nat.le_trans hv2 hS.below.size); have HV3 := Lib.hid (HV2.out.trans (hS.below.mono HBW.out.size)); have HG9 := Lib.hid (HG7.out.below (show Below wr.heap.size wr v3 from HYB.out.trans hS.below)); have HOX3 := Lib.hid (HOX.out.below (show Below wr.heap.size wr v3 from HYB.out.trans hS.below)); clear hG hS)
          | (go_at_call 13; (with_reducible refine (gglyphs_any _ gy ay cy3 (cleanG l) v3 HY3.out (Nat.le_trans (cleanG_length l) (by rw [HL.out]; omega))).mono ?_); rintro e v4 ⟨a4, c4, rfl, ho, _, _, _, hb4⟩; have HC4 := Lib.hid ho; have HCB := Lib.hid (fun p (hp : a4 = some p) => ho.lt p.block (by rw [hp]; rfl)); have HG10 := Lib.hid (HG9.out.below hb4); have HOX4 := Lib.hid (HOX3.out.below hb4); have HV4 := Lib.hid (HV3.out.trans (hb4.mono HV3.out.size)); have hv4 := hb4.size; have hv3 : wr.heap.size ≤ v3.heap.size := HV3S.out; clear ho hb4)
          | (go_at_call 19; (with_reducible refine (gins_any w1.heap.size g a2 c2 l z ax m cx (List.replicate m 65535) v4 HG10.out HOX4.out List.length_replicate hgg (by omega) (by rw [HL.out]; omega) (by omega)).mono ?_); rintro e v5 ⟨a5', c5', rfl, hG, hS⟩; rw [HOK.out]; rw [← HR.out] at hG; have HG11 := Lib.hid hG; have HS5 := Lib.hid hS; have HV5 := Lib.hid (HV4.out.trans (hS.below.mono h1z)); have hv5 := hS.below.size; clear hG hS)
          | (go_at_call 18; (with_reducible refine (gclean_any w1.heap.size g a5' c5' R v5 HG11.out hgg (by omega) (by have := HRL.out; omega)).mono ?_); rintro e v6 ⟨c6', rfl, hG, hS⟩; have HG12 := Lib.hid hG; have HS6 := Lib.hid (HS5.out.trans hS); have HV6 := Lib.hid (HV5.out.trans (hS.below.mono h1z)); clear hG hS)
          | (go_at_call 13; (with_reducible refine (gglyphs_any _ g a5' c6' (cleanG R) v6 HG12.out (Nat.le_trans (cleanG_length R) (by have := HRL.out; omega))).mono ?_); rintro e v7 ⟨a7, c7, rfl, ho, _, _, _, hb7⟩; have HM7 := Lib.hid ho; have HB7 := Lib.hid hb7; have HV7 := Lib.hid (HV6.out.trans (hb7.mono HV6.out.size)); clear ho hb7)
          | (go_at_call 12; (with_reducible refine (refSameG_any a7 a4 (cleanG R).length c7 (cleanG l).length c4 (cleanG R) (cleanG l) v7 (has_of_owns HM7.out) rfl ((HS6.out.has (has_of_owns HC4.out) (fun p hp => by have := HCB.out p hp; omega) (fun p q hp hq => by have := HCB.out p hp; have := HRW.out q hq; omega)).below HB7.out) rfl (Nat.le_trans (cleanG_length R) (by have := HRL.out; omega)) (Nat.le_trans (cleanG_length l) (by rw [HL.out]; omega))).mono ?_); rintro e v8 ⟨rfl, hb8⟩; have HV8 := Lib.hid (HV7.out.trans (hb8.mono HV7.out.size)); clear hb8))
        go_ret
        exact ⟨by rw [HCI.out]; simp, HV8.out⟩

open Go.ChangeShapes Go.WideShapes Go.ChangeAt Go.RowKit
open Go.ChangeMaps (open_string shut_string)

set_option maxRecDepth 100000 in
theorem lineTwice_walks (H : Type) (enc : TypeId × Value → H) : Walks H enc 4 [28, 3, 22] := by
  intro W base args ds p hval hA _
  obtain ⟨v0, vs0, d0, ds0, p0, q0, hargs, rfl, rfl, h0, r0⟩ := trodAll_cons hA
  obtain ⟨v1, vs1, d1, ds1, p1, q1, rfl, rfl, rfl, h1, r1⟩ := trodAll_cons r0
  obtain ⟨v2, vs2, d2, ds2, p2, q2, rfl, rfl, rfl, h2, r2⟩ := trodAll_cons r1
  obtain ⟨rfl, rfl, rfl⟩ := trodAll_nil r2
  obtain rfl : args = #[v0, v1, v2] := by cases args; simp_all
  obtain ⟨a, n, c, l, rfl, hl, hnc, _, hn, hh⟩ := open_glyphs (hval 0 28 v0 rfl rfl) h0
  obtain ⟨z1, rfl, t1⟩ := open_int Try.underlying3 (hval 1 3 v1 rfl rfl) h1
  obtain ⟨ai, m, ci, ids, rfl, hil, _, _, _, hi, _⟩ := open_ids (hval 2 22 v2 rfl rfl) h2
  exact lineTwice_walk a n c l z1 ai m ci ids W hh hl

set_option maxRecDepth 100000 in
theorem lineTwice_lifted (os : Os) (started : os.Started) (H : Type) (enc : TypeId × Value → H) :
    ReturnsInHanded {} Try.checked os 4 .any (Rows.lineTwiceSpec.pre6 enc Try.prog Try.f4 Rows.lineTwiceRow.domain false) (Rows.lineTwiceSpec.post enc Try.prog Try.f4 false true false false) :=
  lift_law (s := Rows.lineTwiceSpec) (fn := Try.f4) started (by kernel_rfl) Try.func4
    (ChangeSpec.witness6 (enc := enc) (C := Try.checked) false ⟨#[], #[.slice none 0 0, .int .i64 0, .slice none 0 0], []⟩ 8 (by kernel_rfl) (by kernel_rfl) (by kernel_rfl) (by kernel_rfl))
    rfl rfl (fun ds h => by match ds, h with | [d0, d1, d2], _ => rfl) (by intro t ht; simp [Try.params4] at ht; first | (subst ht; exact ⟨by kernel_rfl, of_decide_eq_true (by kernel_rfl)⟩) | (obtain rfl | rfl := ht <;> exact ⟨by kernel_rfl, of_decide_eq_true (by kernel_rfl)⟩) | (obtain rfl | rfl | rfl := ht <;> exact ⟨by kernel_rfl, of_decide_eq_true (by kernel_rfl)⟩) | (obtain rfl | rfl | rfl | rfl := ht <;> exact ⟨by kernel_rfl, of_decide_eq_true (by kernel_rfl)⟩))
    (by rw [Try.params4]; exact lineTwice_walks H enc)
theorem lineTwice_over : Rows.lineTwiceRow.holds Try.pinned (OpenSpec.ofChange Rows.lineTwiceSpec) :=
  OpenClaim.holds_of_wide 4 Try.f4 rfl rfl rfl rfl rfl rfl rfl ⟨rfl, rfl, rfl, rfl, rfl⟩ rfl rfl rfl rfl rfl (by kernel_rfl) Try.func4 (by kernel_rfl)
    (of_decide_eq_true (by kernel_rfl)) (by unfold Func.isWrapper; first | (rw [if_pos (by decide +kernel)]; kernel_rfl) | (rw [if_neg (by decide +kernel)]; exact ⟨rfl, rfl⟩))
    (fun os started H enc _ => lineTwice_lifted os started H enc)
theorem lineTwice_proved : Rows.LineTwiceSaid := lineTwice_over
#print axioms lineTwice_proved
end Go.Proofs.Ytjkddbbjbfajaaa
