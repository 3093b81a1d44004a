
/- The document's Insert of glyphs. Conditions: as many cells as the slices say; sizes. -/
import Derived.Test.YtjkddbbjbfajaaaGJoin
namespace Go.Proofs.Ytjkddbbjbfajaaa
open Go.RowKit Go.Lib

theorem insC_lt {l : List (Int × Int)} {i : Nat} {p : Int × Int} (h : l[i]? = some p) : insC l i = p.2 := by
  rw [insC, if_pos (List.getElem?_eq_some_iff.1 h).1, List.getD_eq_getElem?_getD, h]; rfl
theorem insC_end {l : List (Int × Int)} {i : Nat} {p : Int × Int} (hi : i = l.length) (h : l[i - 1]? = some p) : insC l i = p.2 := by
  rw [insC, if_neg (by omega), ← hi, List.getD_eq_getElem?_getD, h]; rfl
theorem insC_nil : insC [] 0 = 0 := rfl
theorem advK_has {w : World} {a : Option Addr} {l : List (Int × Int)} (h : Has w a (gv l)) (c k : Nat) (hc : l.length ≤ c) : Has w (if c = k then a else a.map (·.add (k * 2))) (gv (l.drop k)) := by
  split
  · rename_i e
    rw [List.drop_eq_nil_of_le (by omega)]
    exact Has.nil _ _
  · have := Has.adv h (c * 2) (k * 2) (by rw [gv_length]; omega)
    rw [Proofs.Ytjkddbbjbfajaaa.adv, if_neg (by omega), ← gv_drop] at this
    exact this
def RInsIs (a : Option Addr) (n c : Nat) (l : List (Int × Int)) (z : Int) (ids : List Int) (w : World) (e : Ending) (w' : World) : Prop :=
  ∃ v, e = .returned (.tuple #[v, .bool (okI l z)]) ∧ GAns a n c w.heap.size (insG l z ids) v w' ∧ Below w.heap.size w w'
def ownG (v : Value) : Prop := ∃ a n c, v = .slice a n c
set_option maxHeartbeats 3200000 in
set_option maxRecDepth 100000 in
theorem refInsG_any (a : Option Addr) (n c : Nat) (l : List (Int × Int)) (z : Int) (ai : Option Addr) (m ci : Nat) (ids : List Int) (w : World) (h : Has w a (gv l)) (hl : l.length = n) (hnc : n ≤ c) (hA : a = none → c = 0) (hi : Has w ai (iv ids)) (hil : ids.length = m) (hn : n ≤ 1000000) (hm : m ≤ 1000000) :
    Calls Try.prog 23 #[.slice a n c, .int .i64 z, .slice ai m ci] w (RInsIs a n c l z ids w) := by
  have HH := Lib.hid h
  have HL := Lib.hid hl
  have HA := Lib.hid hA
  have HI := Lib.hid hi
  have HIL := Lib.hid hil
  unfold RInsIs
  clear h hl hA hi hil
  by_cases hz : 0 ≤ z ∧ z ≤ (n : Int)
  case neg =>
    have hok : okI l z = false := by simp only [okI, HL.out, Bool.and_eq_false_iff, decide_eq_false_iff_not]; omega
    have hin : insG l z ids = l := by rw [insG, if_neg (by rw [hok]; decide)]
    rw [hok, hin]
    clear hok hin
    by_cases hz0 : z < 0
    · have d3 : decide (z < 0) = true := by simpa using hz0
      clear hz
      go_enter Try.func23, Try.ntmps23
      go_wp2_with fail
      refine bodyPost_ret (v := .tuple #[.slice a n c, .bool false]) (by simp [results, Try.results23, go_sem]) rfl ?_
      exact ⟨_, rfl, .inl ⟨rfl, HL.out, HH.out⟩, blw⟩
    · have d3 : decide (z < 0) = false := by simpa using hz0
      have d4 : decide ((n : Int) < z) = true := by simp; omega
      clear hz hz0
      go_enter Try.func23, Try.ntmps23
      go_wp2_with fail
      refine bodyPost_ret (v := .tuple #[.slice a n c, .bool false]) (by simp [results, Try.results23, go_sem]) rfl ?_
      exact ⟨_, rfl, .inl ⟨rfl, HL.out, HH.out⟩, blw⟩
  obtain ⟨i, rfl⟩ : ∃ i : Nat, z = i := ⟨z.toNat, by omega⟩
  have hin : i ≤ n := by omega
  have hok : okI l (i : Nat) = true := by simp [okI, HL.out]; omega
  have d3 : decide ((i : Int) < 0) = false := by simp
  have d4 : decide ((n : Int) < (i : Int)) = false := by simp; omega
  have HIN := Lib.hid (show insG l (i : Nat) ids = l.take i ++ ((ids.map fun x => (x, insC l i)) ++ l.drop i) by rw [insG, if_pos hok, Int.toNat_natCast])
  have HADV := Lib.hid (fun W (hW : Below w.heap.size w W) => advK_has (HH.out.below hW) c i (by rw [HL.out]; exact hnc))
  have hdl : (l.drop i).length = n - i := by rw [List.length_drop, HL.out]
  have htl : (l.take i).length = i := by rw [List.length_take, HL.out]; omega
  have HDL := Lib.hid hdl
  have HTL := Lib.hid htl
  rw [hok]
  clear hok hz hdl htl
  by_cases hin1 : i < n
  ·
    obtain ⟨gl, ol, p, rfl, hgl, hp, hc1, hc2⟩ := gv_at HH.out (k := i) (by rw [HL.out]; exact hin1)
    obtain ⟨p1, C⟩ := p
    simp only at hc1 hc2
    have hcc : insC l i = C := insC_lt hp
    clear hp
    have HCC := Lib.hid hcc
    clear hcc
    go_enter Try.func23, Try.ntmps23
    go_wp2_with (at_builtin; refine wpAppGn rfl _ _ rfl w.heap.size _ [] (l.take i) 0 rfl rfl (GRow.lit w [] _ (Nat.le_refl _) (Nat.zero_le _) #[] rfl) _ i c rfl HTL.out (by rw [gv_take]; exact (HH.out.below (balloc (brefl w) _)).take _) HA.out (by omega) (by simp) ?_; intro a2 c2 w2 hg2 hb2; rw [Nat.zero_add, List.nil_append] at *; have HO2 := Lib.hid hg2; have HB2 := Lib.hid ((balloc (brefl w) _).trans hb2); clear hg2 hb2)
    go_loopw [9, 10] (fun v x wr => ∃ j : Nat, j ≤ m ∧ x = .int .i64 (j : Nat) ∧ GRow w.heap.size (l.take i ++ (ids.take j).map fun x => (x, C)) v wr ∧ Below w.heap.size w wr) (fun _ x _ => m - (intOf x).toNat)
    case atStart => exact ⟨0, Nat.zero_le _, rfl, by simpa using HO2.out, HB2.out⟩
    case round =>
      obtain ⟨j, hj, rfl, hx, hb⟩ := hrel
      have HX := Lib.hid hx
      have HB := Lib.hid hb
      have hzr := hb.size
      clear hx hb
      obtain ⟨X, hX⟩ : ∃ X, X = l.take i ++ (ids.take j).map fun x => (x, C) := ⟨_, rfl⟩
      have hXl : X.length = i + j := by rw [hX]; simp [HL.out, HIL.out]; omega
      have HXL := Lib.hid hXl
      clear hXl
      by_cases hlt : j < m
      · obtain ⟨gi, oi, x, rfl, hgi, hk, hci⟩ := iv_at (HI.out.below HB.out) (k := j) (by rw [HIL.out]; exact hlt)
        have HK := Lib.hid (show X ++ [(x, C)] = l.take i ++ (ids.take (j + 1)).map fun x => (x, C) by rw [hX, List.take_add_one, hk]; simp)
        rw [← hX] at HX
        clear hX hk
        go_wp2_with (at_builtin; refine wpAppGn rfl _ _ rfl w.heap.size _ X [(x, C)] (i + j) HXL.out rfl (HX.out.below (balloc (brefl _) _)) (some ⟨wr.heap.size, 0, none⟩) 1 1 rfl rfl (has_alloc wr _ _) (fun h => by cases h) (by omega) (by simp; omega) ?_; intro a4 c4 w4 hg4 hb4; rw [HK.out] at hg4; have HG4 := Lib.hid hg4; have HB4 := Lib.hid ((HB.out.alloc HB.out.size _).trans hb4); clear hg4 hb4)
        go_roundw
        case rel => exact ⟨j + 1, hlt, by go_num, HG4.out, HB4.out⟩
        case measure => simp [intOf]; omega
      · obtain rfl : m = j := by omega
        have hF := HIN.out
        rw [HCC.out] at hF
        rw [List.take_of_length_le (Nat.le_of_eq HIL.out)] at hX
        rw [List.take_of_length_le (Nat.le_of_eq HIL.out), ← hX] at HX
        have HF := Lib.hid (show X ++ l.drop i = insG l (i : Nat) ids by rw [hF, hX, List.append_assoc])
        have HAD := HADV.out wr HB.out
        clear hX hF
        have hc : ¬ c = i := by omega
        rw [if_neg hc] at HAD
        have HAD2 := Lib.hid (show Has wr (some ⟨gl, ol + i * 2, none⟩) (gv (l.drop i)) by simpa [Addr.add_lit] using HAD)
        clear HAD
        go_wp2_with (at_builtin; refine wpAppGn rfl _ _ rfl w.heap.size _ X (l.drop i) (i + m) HXL.out rfl HX.out (some ⟨gl, ol + i * 2, none⟩) (n - i) _ rfl HDL.out HAD2.out (fun h => by cases h) (by omega) (by omega) ?_; intro a5 c5 w5 hg5 hb5; rw [HF.out] at hg5; have HG5 := Lib.hid hg5; have HB5 := Lib.hid (HB.out.trans hb5); clear hg5 hb5)
        refine bodyPost_ret (v := .tuple #[.slice a5 (i + m + (n - i)) c5, .bool true]) (by simp [results, Try.results23, go_sem]) rfl ?_
        exact ⟨_, rfl, .inr HG5.out, HB5.out⟩
  by_cases hi0 : 0 < i
  ·
    obtain rfl : n = i := by omega
    obtain ⟨q, hq⟩ : ∃ q, n = q + 1 := ⟨n - 1, by omega⟩
    obtain ⟨gl, ol, p, rfl, hgl, hp, hc1, hc2⟩ := gv_at HH.out (k := q) (by rw [HL.out]; omega)
    obtain ⟨p1, C⟩ := p
    simp only at hc1 hc2
    have hcc : insC l n = C := insC_end HL.out.symm (by rw [hq]; exact hp)
    have hn1 : (n : Int) - 1 = (q : Int) := by omega
    have d5 : decide ((n : Int) < (n : Int)) = false := by simp
    have hqn : q < n := by omega
    clear hp hin1 d4 hin hi0 hq
    have HCC := Lib.hid hcc
    clear hcc
    go_enter Try.func23, Try.ntmps23
    go_wp2_with (at_builtin; refine wpAppGn rfl _ _ rfl w.heap.size _ [] (l.take n) 0 rfl rfl (GRow.lit w [] _ (Nat.le_refl _) (Nat.zero_le _) #[] rfl) _ n c rfl HTL.out (by rw [gv_take]; exact (HH.out.below (balloc (brefl w) _)).take _) HA.out (by omega) (by simp) ?_; intro a2 c2 w2 hg2 hb2; rw [Nat.zero_add, List.nil_append] at *; have HO2 := Lib.hid hg2; have HB2 := Lib.hid ((balloc (brefl w) _).trans hb2); clear hg2 hb2)
    go_loopw [9, 10] (fun v x wr => ∃ j : Nat, j ≤ m ∧ x = .int .i64 (j : Nat) ∧ GRow w.heap.size (l.take n ++ (ids.take j).map fun x => (x, C)) v wr ∧ Below w.heap.size w wr) (fun _ x _ => m - (intOf x).toNat)
    case atStart => exact ⟨0, Nat.zero_le _, rfl, by simpa using HO2.out, HB2.out⟩
    case round =>
      obtain ⟨j, hj, rfl, hx, hb⟩ := hrel
      have HX := Lib.hid hx
      have HB := Lib.hid hb
      have hzr := hb.size
      clear hx hb
      obtain ⟨X, hX⟩ : ∃ X, X = l.take n ++ (ids.take j).map fun x => (x, C) := ⟨_, rfl⟩
      have hXl : X.length = n + j := by rw [hX]; simp [HL.out, HIL.out]; omega
      have HXL := Lib.hid hXl
      clear hXl
      by_cases hlt : j < m
      · obtain ⟨gi, oi, x, rfl, hgi, hk, hci⟩ := iv_at (HI.out.below HB.out) (k := j) (by rw [HIL.out]; exact hlt)
        have HK := Lib.hid (show X ++ [(x, C)] = l.take n ++ (ids.take (j + 1)).map fun x => (x, C) by rw [hX, List.take_add_one, hk]; simp)
        rw [← hX] at HX
        clear hX hk
        go_wp2_with (at_builtin; refine wpAppGn rfl _ _ rfl w.heap.size _ X [(x, C)] (n + j) HXL.out rfl (HX.out.below (balloc (brefl _) _)) (some ⟨wr.heap.size, 0, none⟩) 1 1 rfl rfl (has_alloc wr _ _) (fun h => by cases h) (by omega) (by simp; omega) ?_; intro a4 c4 w4 hg4 hb4; rw [HK.out] at hg4; have HG4 := Lib.hid hg4; have HB4 := Lib.hid ((HB.out.alloc HB.out.size _).trans hb4); clear hg4 hb4)
        go_roundw
        case rel => exact ⟨j + 1, hlt, by go_num, HG4.out, HB4.out⟩
        case measure => simp [intOf]; omega
      · obtain rfl : m = j := by omega
        have hF := HIN.out
        rw [HCC.out] at hF
        rw [List.take_of_length_le (Nat.le_of_eq HIL.out)] at hX
        rw [List.take_of_length_le (Nat.le_of_eq HIL.out), ← hX] at HX
        have HF := Lib.hid (show X ++ l.drop n = insG l (n : Nat) ids by rw [hF, hX, List.append_assoc])
        have HAD := HADV.out wr HB.out
        clear hX hF
        by_cases hc : c = n
        · rw [if_pos hc] at HAD
          have HAD2 := Lib.hid HAD
          clear HAD
          go_wp2_with (at_builtin; refine wpAppGn rfl _ _ rfl w.heap.size _ X (l.drop n) (n + m) HXL.out rfl HX.out (some ⟨gl, ol, none⟩) 0 _ rfl (HDL.out.trans (Nat.sub_self n)) HAD2.out (fun h => by have := HA.out h; omega) (by omega) (by omega) ?_; intro a5 c5 w5 hg5 hb5; rw [HF.out] at hg5; have HG5 := Lib.hid hg5; have HB5 := Lib.hid (HB.out.trans hb5); clear hg5 hb5)
          refine bodyPost_ret (v := .tuple #[.slice a5 (n + m) c5, .bool true]) (by simp [results, Try.results23, go_sem]) rfl ?_
          exact ⟨_, rfl, .inr (by have := HG5.out; simpa using this), HB5.out⟩
        · rw [if_neg hc] at HAD
          have HAD2 := Lib.hid (show Has wr (some ⟨gl, ol + n * 2, none⟩) (gv (l.drop n)) by simpa [Addr.add_lit] using HAD)
          clear HAD
          go_wp2_with (at_builtin; refine wpAppGn rfl _ _ rfl w.heap.size _ X (l.drop n) (n + m) HXL.out rfl HX.out (some ⟨gl, ol + n * 2, none⟩) 0 _ rfl (HDL.out.trans (Nat.sub_self n)) HAD2.out (fun h => by cases h) (by omega) (by omega) ?_; intro a5 c5 w5 hg5 hb5; rw [HF.out] at hg5; have HG5 := Lib.hid hg5; have HB5 := Lib.hid (HB.out.trans hb5); clear hg5 hb5)
          refine bodyPost_ret (v := .tuple #[.slice a5 (n + m) c5, .bool true]) (by simp [results, Try.results23, go_sem]) rfl ?_
          exact ⟨_, rfl, .inr (by have := HG5.out; simpa using this), HB5.out⟩
  obtain rfl : n = i := by omega
  obtain rfl : n = 0 := by omega
  have hcc : insC l 0 = 0 := by rw [List.eq_nil_of_length_eq_zero HL.out]; rfl
  clear hin1 hi0 hin d4
  have HCC := Lib.hid hcc
  clear hcc
  go_enter Try.func23, Try.ntmps23
  go_wp2_with (at_builtin; refine wpAppGn rfl _ _ rfl w.heap.size _ [] (l.take 0) 0 rfl rfl (GRow.lit w [] _ (Nat.le_refl _) (Nat.zero_le _) #[] rfl) _ 0 c rfl HTL.out (by rw [gv_take]; exact (HH.out.below (balloc (brefl w) _)).take _) HA.out (by omega) (by simp) ?_; intro a2 c2 w2 hg2 hb2; rw [Nat.zero_add, List.nil_append] at *; have HO2 := Lib.hid hg2; have HB2 := Lib.hid ((balloc (brefl w) _).trans hb2); clear hg2 hb2)
  go_loopw [9, 10] (fun v x wr => ∃ j : Nat, j ≤ m ∧ x = .int .i64 (j : Nat) ∧ GRow w.heap.size (l.take 0 ++ (ids.take j).map fun x => (x, (0 : Int))) v wr ∧ Below w.heap.size w wr) (fun _ x _ => m - (intOf x).toNat)
  case atStart => exact ⟨0, Nat.zero_le _, rfl, by simpa using HO2.out, HB2.out⟩
  case round =>
    obtain ⟨j, hj, rfl, hx, hb⟩ := hrel
    have HX := Lib.hid hx
    have HB := Lib.hid hb
    have hzr := hb.size
    clear hx hb
    obtain ⟨X, hX⟩ : ∃ X, X = l.take 0 ++ (ids.take j).map fun x => (x, (0 : Int)) := ⟨_, rfl⟩
    have hXl : X.length = 0 + j := by rw [hX]; simp [HL.out, HIL.out]; omega
    have HXL := Lib.hid hXl
    clear hXl
    by_cases hlt : j < m
    · obtain ⟨gi, oi, x, rfl, hgi, hk, hci⟩ := iv_at (HI.out.below HB.out) (k := j) (by rw [HIL.out]; exact hlt)
      have HK := Lib.hid (show X ++ [(x, (0 : Int))] = l.take 0 ++ (ids.take (j + 1)).map fun x => (x, (0 : Int)) by rw [hX, List.take_add_one, hk]; simp)
      rw [← hX] at HX
      clear hX hk
      go_wp2_with (at_builtin; refine wpAppGn rfl _ _ rfl w.heap.size _ X [(x, (0 : Int))] (0 + j) HXL.out rfl (HX.out.below (balloc (brefl _) _)) (some ⟨wr.heap.size, 0, none⟩) 1 1 rfl rfl (has_alloc wr _ _) (fun h => by cases h) (by omega) (by simp; omega) ?_; intro a4 c4 w4 hg4 hb4; rw [HK.out] at hg4; have HG4 := Lib.hid hg4; have HB4 := Lib.hid ((HB.out.alloc HB.out.size _).trans hb4); clear hg4 hb4)
      go_roundw
      case rel => exact ⟨j + 1, hlt, by go_num, by have := HG4.out; simpa using this, HB4.out⟩
      case measure => simp [intOf]; omega
    · obtain rfl : m = j := by omega
      have hF := HIN.out
      rw [HCC.out] at hF
      rw [List.take_of_length_le (Nat.le_of_eq HIL.out)] at hX
      rw [List.take_of_length_le (Nat.le_of_eq HIL.out), ← hX] at HX
      have HF := Lib.hid (show X ++ l.drop 0 = insG l (0 : Nat) ids by rw [hF, hX, List.append_assoc])
      have HAD := HADV.out wr HB.out
      clear hX hF
      by_cases hc : c = 0
      · rw [if_pos hc] at HAD
        have HAD2 := Lib.hid HAD
        clear HAD
        go_wp2_with (at_builtin; refine wpAppGn rfl _ _ rfl w.heap.size _ X (l.drop 0) (0 + m) HXL.out rfl HX.out a 0 _ rfl (HDL.out.trans (Nat.sub_self 0)) HAD2.out (fun h => by have := HA.out h; omega) (by omega) (by omega) ?_; intro a5 c5 w5 hg5 hb5; rw [HF.out] at hg5; have HG5 := Lib.hid hg5; have HB5 := Lib.hid (HB.out.trans hb5); clear hg5 hb5)
        refine bodyPost_ret (v := .tuple #[.slice a5 m c5, .bool true]) (by simp [results, Try.results23, go_sem]) rfl ?_
        exact ⟨_, rfl, .inr (by have := HG5.out; simpa using this), HB5.out⟩
      · obtain ⟨p, rfl⟩ : ∃ p, a = some p := by
          cases a with
          | none => have := HA.out rfl; omega
          | some p => exact ⟨p, rfl⟩
        rw [if_neg hc] at HAD
        have HAD2 := Lib.hid (show Has wr (some (p.add (0 * 2))) (gv (l.drop 0)) by simpa [Addr.add_lit] using HAD)
        clear HAD
        go_wp2_with (at_builtin; refine wpAppGn rfl _ _ rfl w.heap.size _ X (l.drop 0) (0 + m) HXL.out rfl HX.out (some (p.add (0 * 2))) 0 _ rfl (HDL.out.trans (Nat.sub_self 0)) HAD2.out (fun h => by cases h) (by omega) (by omega) ?_; intro a5 c5 w5 hg5 hb5; rw [HF.out] at hg5; have HG5 := Lib.hid hg5; have HB5 := Lib.hid (HB.out.trans hb5); clear hg5 hb5)
        refine bodyPost_ret (v := .tuple #[.slice a5 m c5, .bool true]) (by simp [results, Try.results23, go_sem]) rfl ?_
        exact ⟨_, rfl, .inr (by have := HG5.out; simpa using this), HB5.out⟩
end Go.Proofs.Ytjkddbbjbfajaaa
