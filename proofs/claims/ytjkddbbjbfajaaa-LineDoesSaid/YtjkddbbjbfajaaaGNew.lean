
/- Contracts of line.New, and of the document's New, Turn, Clean, Set and Same of glyphs. Conditions: as many cells as the slices say; sizes. -/
import Derived.Test.YtjkddbbjbfajaaaGOps
namespace Go.Proofs.Ytjkddbbjbfajaaa
open Go.RowKit Go.Lib

def iv (ids : List Int) : List Value := ids.map fun z => .int .i64 z
theorem iv_get {ids : List Int} {j : Nat} {z : Int} (h : ids[j]? = some z) : (iv ids)[j]? = some (.int .i64 z) := by simp [iv, List.getElem?_map, h]
theorem iv_length (ids : List Int) : (iv ids).length = ids.length := by simp [iv]
/-- A number of a slice of numbers. -/
theorem iv_at {w : World} {a : Option Addr} {ids : List Int} (h : Has w a (iv ids)) {k : Nat} (hk : k < ids.length) : ∃ g o z, a = some ⟨g, o, none⟩ ∧ g < w.heap.size ∧ ids[k]? = some z ∧ w.cell? ⟨g, o + k, none⟩ = some (.int .i64 z) := by
  obtain ⟨g, o, ha, hg, hx⟩ := h.get (by rw [iv_length]; omega)
  exact ⟨g, o, ids[k], ha, hg, List.getElem?_eq_getElem hk, hx k _ (iv_get (List.getElem?_eq_getElem hk))⟩
/-- A glyph of a slice of glyphs. -/
theorem gv_at {w : World} {a : Option Addr} {l : List (Int × Int)} (h : Has w a (gv l)) {k : Nat} (hk : k < l.length) : ∃ g o p, a = some ⟨g, o, none⟩ ∧ g < w.heap.size ∧ l[k]? = some p ∧ w.cell? ⟨g, o + k * 2, none⟩ = some (.int .i64 p.1) ∧ w.cell? ⟨g, o + k * 2 + 1, none⟩ = some (.int .i64 p.2) := by
  obtain ⟨g, o, ha, hg, hx⟩ := h.get (by rw [gv_length]; omega)
  exact ⟨g, o, l[k], ha, hg, List.getElem?_eq_getElem hk, hx _ _ (gv_fst (List.getElem?_eq_getElem hk)), hx _ _ (gv_snd (List.getElem?_eq_getElem hk))⟩
def newG (ids : List Int) : List (Int × Int) := ids.mapIdx fun i z => (z, (i : Int))
theorem newG_length (ids : List Int) : (newG ids).length = ids.length := by simp [newG]
theorem newG_get (ids : List Int) (k : Nat) : (newG ids)[k]? = ids[k]?.map fun z => (z, (k : Int)) := by simp [newG]
def partN (ids : List Int) (k : Nat) : List (Int × Int) := (newG ids).take k ++ List.replicate (ids.length - k) (0, 0)
theorem partN_zero (ids : List Int) : partN ids 0 = List.replicate ids.length (0, 0) := by simp [partN]
theorem partN_all (ids : List Int) : partN ids ids.length = newG ids := by simp [partN, List.take_of_length_le (Nat.le_of_eq (newG_length ids))]
theorem partN_length (ids : List Int) (k : Nat) (h : k ≤ ids.length) : (partN ids k).length = ids.length := by
  rw [partN, List.length_append, List.length_take, newG_length, List.length_replicate]; omega
theorem partN_set (ids : List Int) (k : Nat) (z : Int) (h : ids[k]? = some z) : (partN ids k).set k (z, (k : Int)) = partN ids (k + 1) := by
  have hlt := (List.getElem?_eq_some_iff.1 h).1
  have hg : (newG ids)[k]? = some (z, (k : Int)) := by rw [newG_get, h]; rfl
  rw [partN, partN, List.take_add_one, hg, List.set_append, if_neg (by rw [List.length_take, newG_length]; omega)]
  rw [show ids.length - k = ids.length - (k + 1) + 1 by omega, List.replicate_succ]
  rw [List.length_take, newG_length, Nat.min_eq_left (by omega), Nat.sub_self, List.set_cons_zero]
  simp
set_option maxHeartbeats 1600000 in
theorem gnew_any (a : Option Addr) (n c : Nat) (ids : List Int) (w : World) (h : Has w a (iv ids)) (hl : ids.length = n) (hn : n ≤ 1000000) :
    Calls Try.prog 9 #[.slice a n c] w fun e w' => ∃ g a' c', e = .returned (.pointer (some ⟨g, 0, none⟩)) ∧ GIs w.heap.size g a' c' (newG ids) w' ∧ w.heap.size ≤ g ∧ Below w.heap.size w w' := by
  have HH := Lib.hid h
  have HL := Lib.hid hl
  clear h hl
  go_enter Try.func9, Try.ntmps9
  go_wp2_with (refine wpMake w rfl _ _ 28 rfl w.heap.size 38 (.agg #[.int .i64 0, .int .i64 0]) 2 16 Try.underlying28 info_glyph n rfl rfl (by omega) (by unfold maxLen; omega) (Nat.le_refl _) ?_; intro w1 hown hb1; rw [made_glyph] at hown; have HO := Lib.hid hown; clear hown)
  have hz1 := hb1.size
  have HB1 := Lib.hid hb1
  clear hb1
  go_loopw [11] (fun i wr => ∃ j : Nat, j ≤ n ∧ i = .int .i64 (j : Nat) ∧ wr.ownsRow w.heap.size 38 2 (.slice (some ⟨w.heap.size, 0, none⟩) n n) n (gv (partN ids j)) ∧ Below w.heap.size w wr) (fun i _ => n - (intOf i).toNat)
  case atStart => exact ⟨0, Nat.zero_le _, rfl, by rw [partN_zero, HL.out]; exact HO.out, HB1.out⟩
  case round =>
    obtain ⟨j, hj, rfl, hx, hb⟩ := hrel
    have HX := Lib.hid hx
    have HB := Lib.hid hb
    clear hx hb
    by_cases hlt : j < n
    · obtain ⟨gi, oi, z, rfl, hgi, hz, hci⟩ := iv_at (HH.out.below HB.out) (k := j) (by rw [HL.out]; exact hlt)
      obtain ⟨g2, cs2, u2, he, _, hh2, hc2, _, f2, hs2⟩ := row_at HX.out (j * 2) (by omega)
      obtain ⟨g3, cs3, u3, he3, _, hh3, hc3, _, f3, hs3⟩ := row_at (hs2 (.int .i64 z)) (j * 2 + 1) (by omega)
      cases he
      cases he3
      have hc3' : ∃ u, wr.cell? ⟨w.heap.size, j * 2 + 1, none⟩ = some u := by
        obtain ⟨_, _, u, he, _, _, hc, _⟩ := row_at HX.out (j * 2 + 1) (by omega)
        cases he
        exact ⟨u, hc⟩
      obtain ⟨u3', hc3'⟩ := hc3'
      have f3' : wr.frozen? ⟨w.heap.size, j * 2 + 1, none⟩ = false := by
        obtain ⟨_, _, u, he, _, _, _, _, hf, _⟩ := row_at HX.out (j * 2 + 1) (by omega)
        cases he
        exact hf
      have hs := hs3 (.int .i64 (j : Nat))
      rw [gv_set, partN_set ids j z hz] at hs
      have HS := Lib.hid hs
      have HB2 := Lib.hid ((HB.out.setCell (p := ⟨w.heap.size, j * 2, none⟩) (Nat.le_refl _) (.int .i64 z)).setCell (p := ⟨w.heap.size, j * 2 + 1, none⟩) (Nat.le_refl _) (.int .i64 (j : Nat)))
      clear hs hs2 hs3 hh2 hh3 hc3 f3 hz
      go_wp2_with fail
      go_roundw
      case rel => exact ⟨j + 1, hlt, by go_num, HS.out, HB2.out⟩
      case measure => simp [intOf]; omega
    · obtain rfl : n = j := by omega
      go_wp2_with fail
      go_ret
      have hzr := HB.out.size
      have ho := HX.out
      have hl := HL.out
      refine ⟨wr.heap.size, _, _, rfl, ⟨by rw [newG_length, hl]; exact heap_new _ _ _, ?_⟩, by omega, HB.out.alloc HB.out.size _⟩
      rw [newG_length, hl]
      rw [← hl] at ho ⊢
      rw [partN_all] at ho
      exact ho.alloc _
set_option maxHeartbeats 1600000 in
theorem refNewG_any (a : Option Addr) (n c : Nat) (ids : List Int) (w : World) (h : Has w a (iv ids)) (hl : ids.length = n) (hn : n ≤ 1000000) :
    Calls Try.prog 10 #[.slice a n c] w fun e w' => ∃ a' c', e = .returned (.slice a' n c') ∧ w'.ownsRow w.heap.size 38 2 (.slice a' n c') n (gv (newG ids)) ∧ Below w.heap.size w w' := by
  have HH := Lib.hid h
  have HL := Lib.hid hl
  clear h hl
  go_enter Try.func10, Try.ntmps10
  go_wp2_with fail
  go_loopw [3, 4] (fun v i wr => ∃ j : Nat, j ≤ n ∧ i = .int .i64 (j : Nat) ∧ GRow w.heap.size ((newG ids).take j) v wr ∧ Below w.heap.size w wr) (fun _ i _ => n - (intOf i).toNat)
  case atStart => exact ⟨0, Nat.zero_le _, rfl, by rw [List.take_zero]; exact GRow.lit w [] _ (Nat.le_refl _) (Nat.zero_le _) #[] rfl, blw⟩
  case round =>
    obtain ⟨j, hj, rfl, hx, hb⟩ := hrel
    have HX := Lib.hid hx
    have HB := Lib.hid hb
    have hzr := hb.size
    clear hx hb
    by_cases hlt : j < n
    · obtain ⟨gi, oi, z, rfl, hgi, hz, hci⟩ := iv_at (HH.out.below HB.out) (k := j) (by rw [HL.out]; exact hlt)
      have HZ := Lib.hid hz
      clear hz
      obtain ⟨X, hX⟩ : ∃ X, X = (newG ids).take j := ⟨_, rfl⟩
      have hXl : X.length = j := by rw [hX, List.length_take, newG_length, HL.out]; omega
      rw [← hX] at HX
      have HXX := Lib.hid hX
      clear hX
      go_wp2_with (at_builtin; refine wpAppG rfl _ _ rfl w.heap.size _ X [(z, (j : Int))] rfl (HX.out.below (balloc (brefl _) _)) (some ⟨wr.heap.size, 0, none⟩) 1 1 rfl rfl (has_alloc wr _ _) (fun h => by cases h) (by omega) (by simp; omega) ?_; intro a2 c2 w2 hg2 hb2 _; have HG2 := Lib.hid hg2; have HB2 := Lib.hid ((HB.out.alloc HB.out.size _).trans hb2); clear hg2 hb2)
      go_roundw
      case rel =>
        refine ⟨j + 1, hlt, by go_num, ?_, HB2.out⟩
        have := HG2.out
        rw [HXX.out] at this
        rw [List.take_add_one, newG_get, HZ.out]
        simpa [newG_length, HL.out, Nat.min_eq_left hj] using this
      case measure => simp [intOf]; omega
    · obtain rfl : n = j := by omega
      have hl := HL.out
      obtain ⟨a1, c1, rfl, ho⟩ := HX.out
      rw [List.take_of_length_le (by rw [newG_length]; omega)] at ho
      rw [List.take_of_length_le (by rw [newG_length]; omega)]
      rw [newG_length, hl] at ho ⊢
      have HO := Lib.hid ho
      clear ho HX
      go_wp2_with fail
      go_ret
      exact ⟨a1, c1, rfl, HO.out, HB.out⟩
set_option maxHeartbeats 1600000 in
theorem refTurnG_any (a : Option Addr) (n c : Nat) (l : List (Int × Int)) (w : World) (h : Has w a (gv l)) (hl : l.length = n) (hn : n ≤ 1000000) :
    Calls Try.prog 28 #[.slice a n c] w fun e w' => ∃ a' c', e = .returned (.slice a' n c') ∧ w'.ownsRow w.heap.size 38 2 (.slice a' n c') n (gv l.reverse) ∧ Below w.heap.size w w' := by
  have HH := Lib.hid h
  have HL := Lib.hid hl
  clear h hl
  go_enter Try.func28, Try.ntmps28
  go_wp2_with fail
  go_loopw [3, 4] (fun v i wr => ∃ j : Nat, j ≤ n ∧ i = .int .i64 (n - 1 - (j : Nat)) ∧ GRow w.heap.size (l.reverse.take j) v wr ∧ Below w.heap.size w wr) (fun _ i _ => (intOf i + 1).toNat)
  case atStart => exact ⟨0, Nat.zero_le _, by congr 1; simp, by rw [List.take_zero]; exact GRow.lit w [] _ (Nat.le_refl _) (Nat.zero_le _) #[] rfl, blw⟩
  case round =>
    obtain ⟨j, hj, rfl, hx, hb⟩ := hrel
    have HX := Lib.hid hx
    have HB := Lib.hid hb
    have hzr := hb.size
    clear hx hb
    by_cases hlt : j < n
    · obtain ⟨q, hq⟩ : ∃ q : Nat, q = n - 1 - j := ⟨_, rfl⟩
      have hqi : (n : Int) - 1 - (j : Int) = (q : Nat) := by omega
      rw [hqi]
      obtain ⟨gi, oi, p, rfl, hgi, hp, hc1, hc2⟩ := gv_at (HH.out.below HB.out) (k := q) (by rw [HL.out]; omega)
      have HP := Lib.hid hp
      have hqn : q < n := by omega
      clear hp hqi
      obtain ⟨X, hX⟩ : ∃ X, X = l.reverse.take j := ⟨_, rfl⟩
      have hXl : X.length = j := by rw [hX, List.length_take, List.length_reverse, HL.out]; omega
      rw [← hX] at HX
      have HXX := Lib.hid hX
      have HQ := Lib.hid hq
      clear hX hq
      obtain ⟨p1, p2⟩ := p
      simp only at hc1 hc2
      go_wp2_with (at_builtin; refine wpAppG rfl _ _ rfl w.heap.size _ X [(p1, p2)] rfl (HX.out.below (balloc (brefl _) _)) (some ⟨wr.heap.size, 0, none⟩) 1 1 rfl rfl (has_alloc wr _ _) (fun h => by cases h) (by omega) (by simp; omega) ?_; intro a2 c2 w2 hg2 hb2 _; have HG2 := Lib.hid hg2; have HB2 := Lib.hid ((HB.out.alloc HB.out.size _).trans hb2); clear hg2 hb2)
      go_roundw
      case rel =>
        have hq := HQ.out
        refine ⟨j + 1, hlt, by congr 1 <;> omega, ?_, HB2.out⟩
        have := HG2.out
        rw [HXX.out] at this
        rw [List.take_add_one, List.getElem?_reverse (by rw [HL.out]; omega), HL.out, ← HQ.out, HP.out]
        simpa [HL.out, Nat.min_eq_left hj] using this
      case measure => simp [intOf] <;> omega
    · obtain rfl : n = j := by omega
      have hl := HL.out
      obtain ⟨a1, c1, rfl, ho⟩ := HX.out
      rw [List.take_of_length_le (by rw [List.length_reverse]; omega)] at ho
      rw [List.take_of_length_le (by rw [List.length_reverse]; omega)]
      rw [List.length_reverse, hl] at ho ⊢
      have HO := Lib.hid ho
      clear ho HX
      have d0 : decide (0 ≤ (n : Int) - 1 - (n : Int)) = false := by simp only [decide_eq_false_iff_not]; omega
      go_wp2_with fail
      go_ret
      exact ⟨a1, c1, rfl, HO.out, HB.out⟩
def cleanG (l : List (Int × Int)) : List (Int × Int) := l.filter fun p => decide (p.1 ≠ 65535)
theorem cleanG_length (l : List (Int × Int)) : (cleanG l).length ≤ l.length := List.length_filter_le _ _
theorem cleanG_snoc {l : List (Int × Int)} {j : Nat} {p : Int × Int} (h : l[j]? = some p) : cleanG (l.take (j + 1)) = cleanG (l.take j) ++ (if p.1 = 65535 then [] else [p]) := by
  rw [List.take_add_one, h, cleanG, cleanG, List.filter_append]
  by_cases hp : p.1 = 65535 <;> simp [hp]
set_option maxHeartbeats 1600000 in
theorem refCleanG_any (a : Option Addr) (n c : Nat) (l : List (Int × Int)) (w : World) (h : Has w a (gv l)) (hl : l.length = n) (hn : n ≤ 1000000) :
    Calls Try.prog 29 #[.slice a n c] w fun e w' => ∃ a' c', e = .returned (.slice a' (cleanG l).length c') ∧ w'.ownsRow w.heap.size 38 2 (.slice a' (cleanG l).length c') (cleanG l).length (gv (cleanG l)) ∧ Below w.heap.size w w' := by
  have HH := Lib.hid h
  have HL := Lib.hid hl
  clear h hl
  go_enter Try.func29, Try.ntmps29
  go_wp2_with fail
  go_loopw [3, 4] (fun v i wr => ∃ j : Nat, j ≤ n ∧ i = .int .i64 (j : Nat) ∧ GRow w.heap.size (cleanG (l.take j)) v wr ∧ Below w.heap.size w wr) (fun _ i _ => n - (intOf i).toNat)
  case atStart => exact ⟨0, Nat.zero_le _, rfl, by rw [List.take_zero]; exact GRow.lit w [] _ (Nat.le_refl _) (Nat.zero_le _) #[] rfl, blw⟩
  case round =>
    obtain ⟨j, hj, rfl, hx, hb⟩ := hrel
    have HX := Lib.hid hx
    have HB := Lib.hid hb
    have hzr := hb.size
    clear hx hb
    by_cases hlt : j < n
    · obtain ⟨gi, oi, p, rfl, hgi, hp, hc1, hc2⟩ := gv_at (HH.out.below HB.out) (k := j) (by rw [HL.out]; omega)
      have HP := Lib.hid (cleanG_snoc hp)
      clear hp
      obtain ⟨X, hX⟩ : ∃ X, X = cleanG (l.take j) := ⟨_, rfl⟩
      have hXl : X.length ≤ j := by rw [hX]; exact Nat.le_trans (cleanG_length _) (by rw [List.length_take]; omega)
      rw [← hX] at HX HP
      clear hX
      obtain ⟨p1, p2⟩ := p
      simp only at hc1 hc2
      by_cases h6 : p1 = 65535
      · rw [if_pos (show ((p1, p2) : Int × Int).1 = 65535 from h6), List.append_nil] at HP
        subst h6
        go_wp2_with fail
        go_roundw
        case rel => exact ⟨j + 1, hlt, by go_num, by rw [HP.out]; exact HX.out, HB.out⟩
        case measure => simp [intOf]; omega
      · rw [if_neg (show ¬ ((p1, p2) : Int × Int).1 = 65535 from h6)] at HP
        go_wp2_with (at_builtin; refine wpAppG rfl _ _ rfl w.heap.size _ X [(p1, p2)] rfl (HX.out.below (balloc (brefl _) _)) (some ⟨wr.heap.size, 0, none⟩) 1 1 rfl rfl (has_alloc wr _ _) (fun h => by cases h) (by omega) (by simp; omega) ?_; intro a2 c2 w2 hg2 hb2 _; have HG2 := Lib.hid hg2; have HB2 := Lib.hid ((HB.out.alloc HB.out.size _).trans hb2); clear hg2 hb2)
        go_roundw
        case rel => exact ⟨j + 1, hlt, by go_num, by rw [HP.out]; exact HG2.out, HB2.out⟩
        case measure => simp [intOf]; omega
    · obtain rfl : n = j := by omega
      have hl := HL.out
      obtain ⟨a1, c1, rfl, ho⟩ := HX.out
      rw [List.take_of_length_le (Nat.le_of_eq hl)] at ho
      rw [List.take_of_length_le (Nat.le_of_eq hl)]
      have HO := Lib.hid ho
      clear ho HX
      go_wp2_with fail
      go_ret
      exact ⟨a1, c1, rfl, HO.out, HB.out⟩
set_option maxHeartbeats 1600000 in
theorem refSameG_any (a b : Option Addr) (n c m d : Nat) (l k : List (Int × Int)) (w : World) (h : Has w a (gv l)) (hl : l.length = n) (h2 : Has w b (gv k)) (hk : k.length = m) (hn : n ≤ 1000000) (hm : m ≤ 1000000) :
    Calls Try.prog 12 #[.slice a n c, .slice b m d] w fun e w' => e = .returned (.bool (decide (l = k))) ∧ Below w.heap.size w w' := by
  have HH := Lib.hid h
  have HK := Lib.hid h2
  have HL := Lib.hid hl
  have HKL := Lib.hid hk
  clear h h2 hl hk
  by_cases hnm : n = m
  case neg =>
    have he : decide (l = k) = false := by
      simp only [decide_eq_false_iff_not]
      rintro rfl
      exact hnm (HL.out.symm.trans HKL.out)
    rw [he]
    have hne : ¬ (n : Int) = (m : Int) := by omega
    clear hnm he
    go_enter Try.func12, Try.ntmps12
    go_wp2_with fail
    go_ret
    exact ⟨rfl, blw⟩
  subst hnm
  go_enter Try.func12, Try.ntmps12
  go_wp2_with fail
  go_loopw [5] (fun i wr => ∃ j : Nat, j ≤ n ∧ i = .int .i64 (j : Nat) ∧ l.take j = k.take j ∧ Below w.heap.size w wr) (fun i _ => n - (intOf i).toNat)
  case atStart => exact ⟨0, Nat.zero_le _, rfl, by simp, blw⟩
  case round =>
    obtain ⟨j, hj, rfl, hx, hb⟩ := hrel
    have HX := Lib.hid hx
    have HB := Lib.hid hb
    have hzr := hb.size
    clear hx hb
    by_cases hlt : j < n
    · obtain ⟨gi, oi, p, rfl, hgi, hp, hc1, hc2⟩ := gv_at (HH.out.below HB.out) (k := j) (by rw [HL.out]; omega)
      obtain ⟨gk, ok, q, rfl, hgk, hq, hd1, hd2⟩ := gv_at (HK.out.below HB.out) (k := j) (by rw [HKL.out]; omega)
      have HP := Lib.hid hp
      have HQ := Lib.hid hq
      clear hp hq
      obtain ⟨p1, p2⟩ := p
      obtain ⟨q1, q2⟩ := q
      simp only at hc1 hc2 hd1 hd2
      by_cases h6 : p1 = q1 ∧ p2 = q2
      · obtain ⟨rfl, rfl⟩ := h6
        go_wp2_with fail
        refine wp_region_tree (.step 0 (.step 1 (.step 2 (.step 3 (.step 4 (.step 5 (.step 6 (.step 7 (.step 8 .nil))))))))) (by kernel_rfl) (by kernel_rfl) (by kernel_rfl) (by kernel_rfl) (by intro _ _ d_ _ _ h_; cases d_ <;> first | exact h_ | (dsimp +zetaDelta only at h_ ⊢; exact h_)) (fun w' => ∃ p : Wld wr [], w' = p.val) (wld_start _ _) ?_
        have hG_ := @wldC wr
        (refine tree_quiet (by simp only [List.getElem?_toArray, List.getElem?_cons_succ, List.getElem?_cons_zero]; rfl) (by rfl) (by rfl) (fun K_ hK_ => ?_); go_big_quiet_op; refine hK_ _ ?_; clear hK_ K_)
        (refine tree_quiet (by simp only [List.getElem?_toArray, List.getElem?_cons_succ, List.getElem?_cons_zero]; rfl) (by rfl) (by rfl) (fun K_ hK_ => ?_); go_big_quiet_op; refine hK_ _ ?_; clear hK_ K_)
        (refine tree_quiet (by simp only [List.getElem?_toArray, List.getElem?_cons_succ, List.getElem?_cons_zero]; rfl) (by rfl) (by rfl) (fun K_ hK_ => ?_); go_big_quiet_op; refine hK_ _ ?_; clear hK_ K_)
        (refine tree_quiet (by simp only [List.getElem?_toArray, List.getElem?_cons_succ, List.getElem?_cons_zero]; rfl) (by rfl) (by rfl) (fun K_ hK_ => ?_); go_big_quiet_op; refine hK_ _ ?_; clear hK_ K_)
        (refine tree_quiet (by simp only [List.getElem?_toArray, List.getElem?_cons_succ, List.getElem?_cons_zero]; rfl) (by rfl) (by rfl) (fun K_ hK_ => ?_); go_big_quiet_op; refine hK_ _ ?_; clear hK_ K_)
        (refine tree_quiet (by simp only [List.getElem?_toArray, List.getElem?_cons_succ, List.getElem?_cons_zero]; rfl) (by rfl) (by rfl) (fun K_ hK_ => ?_); go_big_quiet_op; refine hK_ _ ?_; clear hK_ K_)
        (refine tree_quiet (by simp only [List.getElem?_toArray, List.getElem?_cons_succ, List.getElem?_cons_zero]; rfl) (by rfl) (by rfl) (fun K_ hK_ => ?_); go_big_quiet_op; refine hK_ _ ?_; clear hK_ K_)
        (refine tree_quiet (by simp only [List.getElem?_toArray, List.getElem?_cons_succ, List.getElem?_cons_zero]; rfl) (by rfl) (by rfl) (fun K_ hK_ => ?_); go_big_quiet_op; refine hK_ _ ?_; clear hK_ K_)
        (refine tree_quiet (by simp only [List.getElem?_toArray, List.getElem?_cons_succ, List.getElem?_cons_zero]; rfl) (by rfl) (by rfl) (fun K_ hK_ => ?_); go_big_quiet_op; refine hK_ _ ?_; clear hK_ K_)
        refine tree_nil ?_
        clear hG_
        go_wp2_with fail
        go_roundw
        case rel => exact ⟨j + 1, hlt, by go_num, by rw [List.take_add_one, List.take_add_one, HX.out, HP.out, HQ.out], HB.out.drew⟩
        case measure => simp [intOf]; omega
      · have he : decide (l = k) = false := by
          simp only [decide_eq_false_iff_not]
          intro e
          have h1 := HP.out
          rw [e, HQ.out] at h1
          injection h1 with h1
          injection h1 with h1 h2
          exact h6 ⟨h1.symm, h2.symm⟩
        have HE := Lib.hid he
        clear he
        by_cases h7 : p1 = q1
        · subst h7
          have h8 : ¬ p2 = q2 := fun e => h6 ⟨rfl, e⟩
          clear h6
          go_wp2_with fail
          refine wp_region_tree (.step 0 (.step 1 (.step 2 (.step 3 (.step 4 (.step 5 (.step 6 (.step 7 (.step 8 .nil))))))))) (by kernel_rfl) (by kernel_rfl) (by kernel_rfl) (by kernel_rfl) (by intro _ _ d_ _ _ h_; cases d_ <;> first | exact h_ | (dsimp +zetaDelta only at h_ ⊢; exact h_)) (fun w' => ∃ p : Wld wr [], w' = p.val) (wld_start _ _) ?_
          have hG_ := @wldC wr
          (refine tree_quiet (by simp only [List.getElem?_toArray, List.getElem?_cons_succ, List.getElem?_cons_zero]; rfl) (by rfl) (by rfl) (fun K_ hK_ => ?_); go_big_quiet_op; refine hK_ _ ?_; clear hK_ K_)
          (refine tree_quiet (by simp only [List.getElem?_toArray, List.getElem?_cons_succ, List.getElem?_cons_zero]; rfl) (by rfl) (by rfl) (fun K_ hK_ => ?_); go_big_quiet_op; refine hK_ _ ?_; clear hK_ K_)
          (refine tree_quiet (by simp only [List.getElem?_toArray, List.getElem?_cons_succ, List.getElem?_cons_zero]; rfl) (by rfl) (by rfl) (fun K_ hK_ => ?_); go_big_quiet_op; refine hK_ _ ?_; clear hK_ K_)
          (refine tree_quiet (by simp only [List.getElem?_toArray, List.getElem?_cons_succ, List.getElem?_cons_zero]; rfl) (by rfl) (by rfl) (fun K_ hK_ => ?_); go_big_quiet_op; refine hK_ _ ?_; clear hK_ K_)
          (refine tree_quiet (by simp only [List.getElem?_toArray, List.getElem?_cons_succ, List.getElem?_cons_zero]; rfl) (by rfl) (by rfl) (fun K_ hK_ => ?_); go_big_quiet_op; refine hK_ _ ?_; clear hK_ K_)
          (refine tree_quiet (by simp only [List.getElem?_toArray, List.getElem?_cons_succ, List.getElem?_cons_zero]; rfl) (by rfl) (by rfl) (fun K_ hK_ => ?_); go_big_quiet_op; refine hK_ _ ?_; clear hK_ K_)
          (refine tree_quiet (by simp only [List.getElem?_toArray, List.getElem?_cons_succ, List.getElem?_cons_zero]; rfl) (by rfl) (by rfl) (fun K_ hK_ => ?_); go_big_quiet_op; refine hK_ _ ?_; clear hK_ K_)
          (refine tree_quiet (by simp only [List.getElem?_toArray, List.getElem?_cons_succ, List.getElem?_cons_zero]; rfl) (by rfl) (by rfl) (fun K_ hK_ => ?_); go_big_quiet_op; refine hK_ _ ?_; clear hK_ K_)
          (refine tree_quiet (by simp only [List.getElem?_toArray, List.getElem?_cons_succ, List.getElem?_cons_zero]; rfl) (by rfl) (by rfl) (fun K_ hK_ => ?_); go_big_quiet_op; refine hK_ _ ?_; clear hK_ K_)
          refine tree_nil ?_
          clear hG_
          go_wp2_with fail
          go_ret
          exact ⟨by rw [HE.out]; rfl, HB.out.drew⟩
        · clear h6
          go_wp2_with fail
          refine wp_region_tree (.step 0 (.step 1 (.step 2 (.step 3 (.step 4 (.step 5 (.step 6 (.step 7 (.step 8 .nil))))))))) (by kernel_rfl) (by kernel_rfl) (by kernel_rfl) (by kernel_rfl) (by intro _ _ d_ _ _ h_; cases d_ <;> first | exact h_ | (dsimp +zetaDelta only at h_ ⊢; exact h_)) (fun w' => ∃ p : Wld wr [], w' = p.val) (wld_start _ _) ?_
          have hG_ := @wldC wr
          (refine tree_quiet (by simp only [List.getElem?_toArray, List.getElem?_cons_succ, List.getElem?_cons_zero]; rfl) (by rfl) (by rfl) (fun K_ hK_ => ?_); go_big_quiet_op; refine hK_ _ ?_; clear hK_ K_)
          (refine tree_quiet (by simp only [List.getElem?_toArray, List.getElem?_cons_succ, List.getElem?_cons_zero]; rfl) (by rfl) (by rfl) (fun K_ hK_ => ?_); go_big_quiet_op; refine hK_ _ ?_; clear hK_ K_)
          (refine tree_quiet (by simp only [List.getElem?_toArray, List.getElem?_cons_succ, List.getElem?_cons_zero]; rfl) (by rfl) (by rfl) (fun K_ hK_ => ?_); go_big_quiet_op; refine hK_ _ ?_; clear hK_ K_)
          (refine tree_quiet (by simp only [List.getElem?_toArray, List.getElem?_cons_succ, List.getElem?_cons_zero]; rfl) (by rfl) (by rfl) (fun K_ hK_ => ?_); go_big_quiet_op; refine hK_ _ ?_; clear hK_ K_)
          (refine tree_quiet (by simp only [List.getElem?_toArray, List.getElem?_cons_succ, List.getElem?_cons_zero]; rfl) (by rfl) (by rfl) (fun K_ hK_ => ?_); go_big_quiet_op; refine hK_ _ ?_; clear hK_ K_)
          (refine tree_quiet (by simp only [List.getElem?_toArray, List.getElem?_cons_succ, List.getElem?_cons_zero]; rfl) (by rfl) (by rfl) (fun K_ hK_ => ?_); go_big_quiet_op; refine hK_ _ ?_; clear hK_ K_)
          (refine tree_quiet (by simp only [List.getElem?_toArray, List.getElem?_cons_succ, List.getElem?_cons_zero]; rfl) (by rfl) (by rfl) (fun K_ hK_ => ?_); go_big_quiet_op; refine hK_ _ ?_; clear hK_ K_)
          (refine tree_quiet (by simp only [List.getElem?_toArray, List.getElem?_cons_succ, List.getElem?_cons_zero]; rfl) (by rfl) (by rfl) (fun K_ hK_ => ?_); go_big_quiet_op; refine hK_ _ ?_; clear hK_ K_)
          (refine tree_quiet (by simp only [List.getElem?_toArray, List.getElem?_cons_succ, List.getElem?_cons_zero]; rfl) (by rfl) (by rfl) (fun K_ hK_ => ?_); go_big_quiet_op; refine hK_ _ ?_; clear hK_ K_)
          refine tree_nil ?_
          clear hG_
          go_wp2_with fail
          go_ret
          exact ⟨by rw [HE.out]; rfl, HB.out.drew⟩
    · obtain rfl : n = j := by omega
      have he : decide (l = k) = true := by
        simp only [decide_eq_true_eq]
        have := HX.out
        rwa [List.take_of_length_le (Nat.le_of_eq HL.out), List.take_of_length_le (Nat.le_of_eq HKL.out)] at this
      have HE := Lib.hid he
      clear he HX
      go_wp2_with fail
      go_ret
      exact ⟨by rw [HE.out]; rfl, HB.out⟩
def setG (l : List (Int × Int)) (z x : Int) : List (Int × Int) := if inG l z then l.set z.toNat (x, (atG l z).2) else l
theorem setG_length (l : List (Int × Int)) (z x : Int) : (setG l z x).length = l.length := by unfold setG; split <;> simp
theorem setG_of {l : List (Int × Int)} {j : Nat} {p : Int × Int} (h : l[j]? = some p) (x : Int) : setG l (j : Nat) x = l.set j (x, p.2) := by rw [setG, if_pos (inG_of h), atG_of h, Int.toNat_natCast]
/-- What a reference answers: the slice that it was handed in, or one of its own. -/
def GAns (a : Option Addr) (n c B : Nat) (l : List (Int × Int)) (v : Value) (w : World) : Prop := (v = .slice a n c ∧ l.length = n ∧ Has w a (gv l)) ∨ GRow B l v w
set_option maxHeartbeats 1600000 in
theorem refSetG_any (a : Option Addr) (n c : Nat) (l : List (Int × Int)) (z x : Int) (w : World) (h : Has w a (gv l)) (hl : l.length = n) (hn : n ≤ 1000000) (hA : a = none → c = 0) :
    Calls Try.prog 22 #[.slice a n c, .int .i64 z, .int .i64 x] w fun e w' => ∃ v, e = .returned (.tuple #[v, .bool (inG l z)]) ∧ GAns a n c w.heap.size (setG l z x) v w' ∧ Below w.heap.size w w' := by
  have HH := Lib.hid h
  have HL := Lib.hid hl
  cases hin : inG l z with
  | false =>
    have hs : setG l z x = l := by rw [setG, if_neg (by rw [hin]; decide)]
    have hz : z < 0 ∨ (n : Int) ≤ z := by
      simp only [inG, Bool.and_eq_false_iff, decide_eq_false_iff_not, hl] at hin
      omega
    rw [hs]
    clear h hl hin hs
    by_cases h0 : z < 0
    · go_enter Try.func22, Try.ntmps22
      go_wp2_with fail
      refine bodyPost_ret (v := .tuple #[.slice a n c, .bool false]) (by simp [results, Try.results22, go_sem]) rfl ?_
      exact ⟨_, rfl, .inl ⟨rfl, HL.out, HH.out⟩, blw⟩
    · have h1 : (n : Int) ≤ z := by omega
      clear hz
      go_enter Try.func22, Try.ntmps22
      go_wp2_with fail
      refine bodyPost_ret (v := .tuple #[.slice a n c, .bool false]) (by simp [results, Try.results22, go_sem]) rfl ?_
      exact ⟨_, rfl, .inl ⟨rfl, HL.out, HH.out⟩, blw⟩
  | true =>
    obtain ⟨j, p, rfl, hj⟩ := inG_yes hin
    have hlt : j < n := by have := (List.getElem?_eq_some_iff.1 hj).1; omega
    rw [setG_of hj]
    have HP := Lib.hid (gv_set1 l j x p hj)
    have d1 : decide ((j : Int) < 0) = false := by simp
    have d2 : decide (n ≤ j) = false := by simp; omega
    have d3 : decide ((n : Int) ≤ (j : Int)) = false := by simp; omega
    have HA := Lib.hid hA
    clear h hl hin hj hA
    go_enter Try.func22, Try.ntmps22
    go_wp2_with (at_builtin; refine wpAppG rfl _ _ rfl w.heap.size _ [] l rfl (GRow.lit w [] _ (Nat.le_refl _) (Nat.zero_le _) #[] rfl) a n c rfl HL.out (HH.out.below (balloc (brefl _) _)) HA.out (by simp; omega) (by simp) ?_; intro a2 c2 w2 hg2 hb2 _; rw [List.length_nil, Nat.zero_add, List.nil_append] at *; obtain ⟨g2, cs2, u2, rfl, hB, hh2, hc2, _, f2, hs2⟩ := row_at (hg2.own HL.out) (j * 2) (by omega); have HS := Lib.hid (hs2 (.int .i64 x)); have HB3 := Lib.hid (((balloc (brefl w) _).trans hb2).setCell (p := ⟨g2, j * 2, none⟩) hB (.int .i64 x)); clear hs2 hh2 hg2 hb2)
    refine bodyPost_ret (v := .tuple #[.slice (some ⟨g2, 0, none⟩) n c2, .bool true]) (by simp [results, Try.results22, go_sem]) rfl ?_
    refine ⟨_, rfl, .inr ⟨_, _, by rw [List.length_set, HL.out], ?_⟩, HB3.out⟩
    have := HS.out
    rw [HP.out] at this
    rw [List.length_set, HL.out]
    exact this
end Go.Proofs.Ytjkddbbjbfajaaa
