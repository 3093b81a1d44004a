
/- Contracts of line.New, and of the document's New, Turn, Clean, Set and Same of glyphs. Conditions: as many cells as the slices say; sizes. -/
import Derived.Test.YtlkbadomklefmaaGOps
namespace Go.Proofs.Ytlkbadomklefmaa
open Go.RowKit Go.Lib

def iv (ids : List Int) : List Value := ids.map fun z => .int .i64 z
theorem iv_get {ids : List Int} {j : Nat} {z : Int} (h : ids[j]? = some z) : (iv ids)[j]? = some (.int .i64 z) := by simp [iv, List.getElem?_map, h]
theorem iv_length (ids : List Int) : (iv ids).length = ids.length := by simp [iv]
/-- A number of a slice of numbers. -/
theorem iv_at {w : World} {a : Option Addr} {ids : List Int} (h : Has w a (iv ids)) {k : Nat} (hk : k < ids.length) : ∃ g o z, a = some ⟨g, o, none⟩ ∧ g < w.heap.size ∧ ids[k]? = some z ∧ w.cell? ⟨g, o + k, none⟩ = some (.int .i64 z) := by
  obtain ⟨g, o, ha, hg, hx⟩ := h.get (by rw [iv_length]; omega)
  exact ⟨g, o, ids[k], ha, hg, List.getElem?_eq_getElem hk, hx k _ (iv_get (List.getElem?_eq_getElem hk))⟩
/-- A glyph of a slice of glyphs. -/
theorem gv_at {w : World} {a : Option Addr} {l : List (Int × Int)} (h : Has w a (gv l)) {k : Nat} (hk : k < l.length) : ∃ g o p, a = some ⟨g, o, none⟩ ∧ g < w.heap.size ∧ l[k]? = some p ∧ w.cell? ⟨g, o + k * 2, none⟩ = some (.int .i64 p.1) ∧ w.cell? ⟨g, o + k * 2 + 1, none⟩ = some (.int .i64 p.2) := by
  obtain ⟨g, o, ha, hg, hx⟩ := h.get (by rw [gv_length]; omega)
  exact ⟨g, o, l[k], ha, hg, List.getElem?_eq_getElem hk, hx _ _ (gv_fst (List.getElem?_eq_getElem hk)), hx _ _ (gv_snd (List.getElem?_eq_getElem hk))⟩
def newG (ids : List Int) : List (Int × Int) := ids.mapIdx fun i z => (z, (i : Int))
theorem newG_length (ids : List Int) : (newG ids).length = ids.length := by simp [newG]
theorem newG_get (ids : List Int) (k : Nat) : (newG ids)[k]? = ids[k]?.map fun z => (z, (k : Int)) := by simp [newG]
def partN (ids : List Int) (k : Nat) : List (Int × Int) := (newG ids).take k ++ List.replicate (ids.length - k) (0, 0)
theorem partN_zero (ids : List Int) : partN ids 0 = List.replicate ids.length (0, 0) := by simp [partN]
theorem partN_all (ids : List Int) : partN ids ids.length = newG ids := by simp [partN, List.take_of_length_le (Nat.le_of_eq (newG_length ids))]
theorem partN_length (ids : List Int) (k : Nat) (h : k ≤ ids.length) : (partN ids k).length = ids.length := by
  rw [partN, List.length_append, List.length_take, newG_length, List.length_replicate]; omega
theorem partN_set (ids : List Int) (k : Nat) (z : Int) (h : ids[k]? = some z) : (partN ids k).set k (z, (k : Int)) = partN ids (k + 1) := by
  have hlt := (List.getElem?_eq_some_iff.1 h).1
  have hg : (newG ids)[k]? = some (z, (k : Int)) := by rw [newG_get, h]; rfl
  rw [partN, partN, List.take_add_one, hg, List.set_append, if_neg (by rw [List.length_take, newG_length]; omega)]
  rw [show ids.length - k = ids.length - (k + 1) + 1 by omega, List.replicate_succ]
  rw [List.length_take, newG_length, Nat.min_eq_left (by omega), Nat.sub_self, List.set_cons_zero]
  simp
set_option maxHeartbeats 1600000 in
theorem gnew_any (a : Option Addr) (n c : Nat) (ids : List Int) (w : World) (h : Has w a (iv ids)) (hl : ids.length = n) (hn : n ≤ 1000000) :
    Calls Try.prog 19 #[.slice a n c] w fun e w' => ∃ g a' c', e = .returned (.pointer (some ⟨g, 0, none⟩)) ∧ GIs w.heap.size g a' c' (newG ids) w' ∧ w.heap.size ≤ g ∧ Below w.heap.size w w' := by
  have HH := Lib.hid h
  have HL := Lib.hid hl
  clear h hl
  go_enter Try.func19, Try.ntmps19
  go_wp2_with (refine wpMake w rfl _ _ 87 rfl w.heap.size 89 (.agg #[.int .i64 0, .int .i64 0]) 2 16 Try.underlying87 info_glyph n rfl rfl (by omega) (by unfold maxLen; omega) (Nat.le_refl _) ?_; intro w1 hown hb1; rw [made_glyph] at hown; have HO := Lib.hid hown; clear hown)
  have hz1 := hb1.size
  have HB1 := Lib.hid hb1
  clear hb1
  go_loopw [11] (fun i wr => ∃ j : Nat, j ≤ n ∧ i = .int .i64 (j : Nat) ∧ wr.ownsRow w.heap.size 89 2 (.slice (some ⟨w.heap.size, 0, none⟩) n n) n (gv (partN ids j)) ∧ Below w.heap.size w wr) (fun i _ => n - (intOf i).toNat)
  case atStart => exact ⟨0, Nat.zero_le _, rfl, by rw [partN_zero, HL.out]; exact HO.out, HB1.out⟩
  case round =>
    obtain ⟨j, hj, rfl, hx, hb⟩ := hrel
    have HX := Lib.hid hx
    have HB := Lib.hid hb
    clear hx hb
    by_cases hlt : j < n
    · obtain ⟨gi, oi, z, rfl, hgi, hz, hci⟩ := iv_at (HH.out.below HB.out) (k := j) (by rw [HL.out]; exact hlt)
      obtain ⟨g2, cs2, u2, he, _, hh2, hc2, _, f2, hs2⟩ := row_at HX.out (j * 2) (by omega)
      obtain ⟨g3, cs3, u3, he3, _, hh3, hc3, _, f3, hs3⟩ := row_at (hs2 (.int .i64 z)) (j * 2 + 1) (by omega)
      cases he
      cases he3
      have hc3' : ∃ u, wr.cell? ⟨w.heap.size, j * 2 + 1, none⟩ = some u := by
        obtain ⟨_, _, u, he, _, _, hc, _⟩ := row_at HX.out (j * 2 + 1) (by omega)
        cases he
        exact ⟨u, hc⟩
      obtain ⟨u3', hc3'⟩ := hc3'
      have f3' : wr.frozen? ⟨w.heap.size, j * 2 + 1, none⟩ = false := by
        obtain ⟨_, _, u, he, _, _, _, _, hf, _⟩ := row_at HX.out (j * 2 + 1) (by omega)
        cases he
        exact hf
      have hs := hs3 (.int .i64 (j : Nat))
      rw [gv_set, partN_set ids j z hz] at hs
      have HS := Lib.hid hs
      have HB2 := Lib.hid ((HB.out.setCell (p := ⟨w.heap.size, j * 2, none⟩) (Nat.le_refl _) (.int .i64 z)).setCell (p := ⟨w.heap.size, j * 2 + 1, none⟩) (Nat.le_refl _) (.int .i64 (j : Nat)))
      clear hs hs2 hs3 hh2 hh3 hc3 f3 hz
      go_wp2_with fail
      go_roundw
      case rel => exact ⟨j + 1, hlt, by go_num, HS.out, HB2.out⟩
      case measure => simp [intOf]; omega
    · obtain rfl : n = j := by omega
      go_wp2_with fail
      go_ret
      have hzr := HB.out.size
      have ho := HX.out
      have hl := HL.out
      refine ⟨wr.heap.size, _, _, rfl, ⟨by rw [newG_length, hl]; exact heap_new _ _ _, ?_⟩, by omega, HB.out.alloc HB.out.size _⟩
      rw [newG_length, hl]
      rw [← hl] at ho ⊢
      rw [partN_all] at ho
      exact ho.alloc _
def cleanG (l : List (Int × Int)) : List (Int × Int) := l.filter fun p => decide (p.1 ≠ 65535)
theorem cleanG_length (l : List (Int × Int)) : (cleanG l).length ≤ l.length := List.length_filter_le _ _
theorem cleanG_snoc {l : List (Int × Int)} {j : Nat} {p : Int × Int} (h : l[j]? = some p) : cleanG (l.take (j + 1)) = cleanG (l.take j) ++ (if p.1 = 65535 then [] else [p]) := by
  rw [List.take_add_one, h, cleanG, cleanG, List.filter_append]
  by_cases hp : p.1 = 65535 <;> simp [hp]
def setG (l : List (Int × Int)) (z x : Int) : List (Int × Int) := if inG l z then l.set z.toNat (x, (atG l z).2) else l
theorem setG_length (l : List (Int × Int)) (z x : Int) : (setG l z x).length = l.length := by unfold setG; split <;> simp
theorem setG_of {l : List (Int × Int)} {j : Nat} {p : Int × Int} (h : l[j]? = some p) (x : Int) : setG l (j : Nat) x = l.set j (x, p.2) := by rw [setG, if_pos (inG_of h), atG_of h, Int.toNat_natCast]
/-- What a reference answers: the slice that it was handed in, or one of its own. -/
def GAns (a : Option Addr) (n c B : Nat) (l : List (Int × Int)) (v : Value) (w : World) : Prop := (v = .slice a n c ∧ l.length = n ∧ Has w a (gv l)) ∨ GRow B l v w
end Go.Proofs.Ytlkbadomklefmaa
