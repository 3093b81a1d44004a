/- Joined from: GBase IV GOps GNew GIns GIns2 GOrd GJoin GIns3 GFrame. -/
import Derived.Test.YtaladlaffglkeaaJ01
import Derived.Test.YtaladlaffglkeaaJ04
import Derived.Laws.CopyRow
import Derived.Laws.CopyOwn
import Derived.Lib.AppendZerosOnto
import Derived.Deep.AppendSrc
import Derived.Lib.Overlaps
import Derived.Lib.JoinLaws
import Derived.Laws.Externs
import Derived.ChangeSame
import Derived.Deep.Strs
section

/- Glyphs as cells; copy between rows of elements of more cells than one; a line in memory. Conditions: sizes, as the lemmas say. -/
namespace Go.Proofs.Ytaladlaffglkeaa
open Go.RowKit

def gv (l : List (Int × Int)) : List Value := l.flatMap fun g => [.int .i64 g.1, .int .i64 g.2]
theorem gv_nil : gv [] = [] := rfl
theorem gv_cons (g : Int × Int) (l : List (Int × Int)) : gv (g :: l) = .int .i64 g.1 :: .int .i64 g.2 :: gv l := rfl
theorem gv_length : ∀ l, (gv l).length = l.length * 2
  | [] => rfl
  | g :: l => by rw [gv_cons, List.length_cons, List.length_cons, gv_length l, List.length_cons]; omega
theorem gv_take : ∀ (l : List (Int × Int)) (k : Nat), gv (l.take k) = (gv l).take (k * 2)
  | [], k => by simp [gv_nil]
  | g :: l, 0 => by simp [gv_nil]
  | g :: l, k + 1 => by rw [List.take_succ_cons, gv_cons, gv_cons, gv_take l k, show (k + 1) * 2 = k * 2 + 1 + 1 by omega, List.take_succ_cons, List.take_succ_cons]
theorem gv_fst : ∀ {l : List (Int × Int)} {j : Nat} {g : Int × Int}, l[j]? = some g → (gv l)[j * 2]? = some (.int .i64 g.1)
  | [], j, g, h => by simp at h
  | x :: l, 0, g, h => by simp at h; subst h; rfl
  | x :: l, j + 1, g, h => by
    rw [gv_cons, show (j + 1) * 2 = j * 2 + 1 + 1 by omega, List.getElem?_cons_succ, List.getElem?_cons_succ]
    exact gv_fst (by simpa using h)
theorem gv_snd : ∀ {l : List (Int × Int)} {j : Nat} {g : Int × Int}, l[j]? = some g → (gv l)[j * 2 + 1]? = some (.int .i64 g.2)
  | [], j, g, h => by simp at h
  | x :: l, 0, g, h => by simp at h; subst h; rfl
  | x :: l, j + 1, g, h => by
    rw [gv_cons, show (j + 1) * 2 + 1 = j * 2 + 1 + 1 + 1 by omega, List.getElem?_cons_succ, List.getElem?_cons_succ]
    exact gv_snd (by simpa using h)
theorem gv_set : ∀ (l : List (Int × Int)) (j : Nat) (x y : Int), ((gv l).set (j * 2) (.int .i64 x)).set (j * 2 + 1) (.int .i64 y) = gv (l.set j (x, y))
  | [], j, x, y => by simp [gv_nil]
  | g :: l, 0, x, y => rfl
  | g :: l, j + 1, x, y => by
    rw [gv_cons, show (j + 1) * 2 = j * 2 + 1 + 1 by omega, List.set_cons_succ, List.set_cons_succ, List.set_cons_succ, List.set_cons_succ, gv_set l j x y, List.set_cons_succ, gv_cons]
theorem gv_set1 : ∀ (l : List (Int × Int)) (j : Nat) (x : Int) (g : Int × Int), l[j]? = some g → (gv l).set (j * 2) (.int .i64 x) = gv (l.set j (x, g.2))
  | [], j, x, g, h => by simp at h
  | g :: l, 0, x, g', h => by simp at h; subst h; rfl
  | g :: l, j + 1, x, g', h => by
    rw [gv_cons, show (j + 1) * 2 = j * 2 + 1 + 1 by omega, List.set_cons_succ, List.set_cons_succ, gv_set1 l j x g' (by simpa using h), List.set_cons_succ, gv_cons]
theorem gv_set2 : ∀ (l : List (Int × Int)) (j : Nat) (x : Int) (g : Int × Int), l[j]? = some g → (gv l).set (j * 2 + 1) (.int .i64 x) = gv (l.set j (g.1, x))
  | [], j, x, g, h => by simp at h
  | g :: l, 0, x, g', h => by simp at h; subst h; rfl
  | g :: l, j + 1, x, g', h => by
    rw [gv_cons, show (j + 1) * 2 + 1 = j * 2 + 1 + 1 + 1 by omega, List.set_cons_succ, List.set_cons_succ, gv_set2 l j x g' (by simpa using h), List.set_cons_succ, gv_cons]
theorem info_glyph : (Try.prog.info? 117).map (fun i => (i.zero, i.size, i.bytes)) = some (some (.agg #[.int .i64 0, .int .i64 0]), 2, 16) := by kernel_rfl
theorem made_glyph (n : Nat) : (madeCells (Value.agg #[.int .i64 0, .int .i64 0]).cells (n * 2)).toList = gv (List.replicate n (0, 0)) := by
  apply List.ext_getElem
  · simp [madeCells, gv_length]
  · intro i h1 h2
    have hlt : i < n * 2 := by rw [gv_length, List.length_replicate] at h2; exact h2
    have hd : i / 2 < n := by omega
    have hg : (List.replicate n ((0 : Int), (0 : Int)))[i / 2]? = some (0, 0) := by rw [List.getElem?_replicate, if_pos hd]
    have hr : (gv (List.replicate n (0, 0)))[i]? = some (.int .i64 0) := by
      rcases Nat.mod_two_eq_zero_or_one i with h | h
      · have := gv_fst hg; rwa [show i / 2 * 2 = i by omega] at this
      · have := gv_snd hg; rwa [show i / 2 * 2 + 1 = i by omega] at this
    rw [List.getElem?_eq_getElem h2] at hr
    rw [Option.some.inj hr]
    simp only [madeCells, Array.getElem_toList, Array.getElem_ofFn, Value.cells]
    rcases Nat.mod_two_eq_zero_or_one i with h | h <;> simp [h]

/-- A line in memory: a block of its own, and glyphs of its own. -/
structure GIs (B g : Nat) (a : Option Addr) (c : Nat) (l : List (Int × Int)) (w : World) : Prop where
  hd : w.heap[g]? = some (.cells #[.slice a l.length c] 128 (0, 0))
  row : w.ownsRow B 117 2 (.slice a l.length c) l.length (gv l)
/-- What a change of a line may touch: its block, and its glyphs'. -/
structure GStep (B g : Nat) (a a' : Option Addr) (w w' : World) : Prop where
  below : Below B w w'
  keep : ∀ k, k < w.heap.size → k ≠ g → some k ≠ a.map (·.block) → w'.heap[k]? = w.heap[k]?
  new : ∀ k, a'.map (·.block) = some k → a.map (·.block) = some k ∨ w.heap.size ≤ k
theorem GIs.below {B g : Nat} {a : Option Addr} {c : Nat} {l : List (Int × Int)} {w w' : World} (h : GIs B g a c l w) (hb : Below w.heap.size w w') : GIs B g a c l w' :=
  ⟨(hb.block g (Array.getElem?_eq_some_iff.1 h.hd).1).trans h.hd, owns_below h.row hb (Nat.le_refl _)⟩
theorem GStep.of_below {B g : Nat} {a : Option Addr} {w w' : World} (h : Below w.heap.size w w') (hB : B ≤ w.heap.size) : GStep B g a a w w' := ⟨h.mono hB, fun k hk _ _ => h.block k hk, fun _ h => .inl h⟩
theorem GStep.trans {B g : Nat} {a b c : Option Addr} {w1 w2 w3 : World} (h : GStep B g a b w1 w2) (k : GStep B g b c w2 w3) : GStep B g a c w1 w3 :=
  ⟨h.below.trans k.below, fun x hx hg ha => by
    have hs := h.below.size
    rw [k.keep x (by omega) hg (fun e => by rcases h.new x e.symm with e | e; exact ha e.symm; omega), h.keep x hx hg ha],
   fun x hx => by
    have hs := h.below.size
    rcases k.new x hx with e | e
    · exact h.new x e
    · exact .inr (by omega)⟩
end Go.Proofs.Ytaladlaffglkeaa
end
section

/- Rows of numbers as cells. No condition of its own. -/
namespace Go.Proofs.Ytaladlaffglkeaa
open Go.RowKit

def iv (ids : List Int) : List Value := ids.map fun z => .int .i64 z
theorem iv_get {ids : List Int} {j : Nat} {z : Int} (h : ids[j]? = some z) : (iv ids)[j]? = some (.int .i64 z) := by simp [iv, List.getElem?_map, h]
theorem iv_length (ids : List Int) : (iv ids).length = ids.length := by simp [iv]
/-- A number of a slice of numbers. -/
theorem iv_at {w : World} {a : Option Addr} {ids : List Int} (h : Has w a (iv ids)) {k : Nat} (hk : k < ids.length) : ∃ g o z, a = some ⟨g, o, none⟩ ∧ g < w.heap.size ∧ ids[k]? = some z ∧ w.cell? ⟨g, o + k, none⟩ = some (.int .i64 z) := by
  obtain ⟨g, o, ha, hg, hx⟩ := h.get (by rw [iv_length]; omega)
  exact ⟨g, o, ids[k], ha, hg, List.getElem?_eq_getElem hk, hx k _ (iv_get (List.getElem?_eq_getElem hk))⟩
end Go.Proofs.Ytaladlaffglkeaa
end
section

/- Contracts of package line's small functions: Clone at glyphs, New, Of, Len, Glyphs, has, At, Set. Conditions: a line in memory; sizes. -/
namespace Go.Proofs.Ytaladlaffglkeaa
open Go.RowKit Go.Lib

theorem GIs.glyph {B g : Nat} {a : Option Addr} {c : Nat} {l : List (Int × Int)} {w : World} (h : GIs B g a c l w) {j : Nat} {p : Int × Int} (hj : l[j]? = some p) :
    ∃ gb, a = some ⟨gb, 0, none⟩ ∧ B ≤ gb ∧ gb < w.heap.size ∧ gb ≠ g ∧ w.cell? ⟨gb, j * 2, none⟩ = some (.int .i64 p.1) ∧ w.cell? ⟨gb, j * 2 + 1, none⟩ = some (.int .i64 p.2) ∧ w.frozen? ⟨gb, j * 2, none⟩ = false ∧ w.frozen? ⟨gb, j * 2 + 1, none⟩ = false ∧
      (∀ x, GIs B g a c (l.set j (x, p.2)) (w.setCell ⟨gb, j * 2, none⟩ (.int .i64 x))) ∧ (∀ x, GIs B g a c (l.set j (p.1, x)) (w.setCell ⟨gb, j * 2 + 1, none⟩ (.int .i64 x))) := by
  have hlt : j < l.length := (List.getElem?_eq_some_iff.1 hj).1
  obtain ⟨gb, cs, u, rfl, hB, hh, hc, _, hf, hs⟩ := row_at h.row (j * 2) (by omega)
  obtain ⟨gb', cs', u', ha', _, hh', hc', _, hf', hs'⟩ := row_at h.row (j * 2 + 1) (by omega)
  cases ha'
  have hne : gb ≠ g := by
    rintro rfl
    rw [h.hd] at hh
    injection hh with hh
    injection hh with _ h2 _
    exact absurd h2 (by decide)
  have e1 := h.row.cellAt (j * 2) (by omega)
  have e2 := h.row.cellAt (j * 2 + 1) (by omega)
  rw [gv_fst hj] at e1
  rw [gv_snd hj] at e2
  refine ⟨gb, rfl, hB, (Array.getElem?_eq_some_iff.1 hh).1, hne, e1, e2, hf, hf', fun x => ?_, fun x => ?_⟩
  · refine ⟨by rw [set_heap_other _ (Ne.symm hne), List.length_set]; exact h.hd, ?_⟩
    have := hs (.int .i64 x)
    rw [gv_set1 l j x p hj] at this
    rwa [List.length_set]
  · refine ⟨by rw [set_heap_other _ (Ne.symm hne), List.length_set]; exact h.hd, ?_⟩
    have := hs' (.int .i64 x)
    rw [gv_set2 l j x p hj] at this
    rwa [List.length_set]
set_option maxHeartbeats 800000 in
theorem glen_any (B g : Nat) (a : Option Addr) (c : Nat) (l : List (Int × Int)) (w : World) (h : GIs B g a c l w) :
    Calls Try.prog 104 #[.pointer (some ⟨g, 0, none⟩)] w fun e w' => e = .returned (.int .i64 (l.length : Nat)) ∧ w = w' := by
  have q0 := cell_of_heap h.hd 0
  simp only [List.getElem?_toArray, List.getElem?_cons_zero] at q0
  clear h
  generalize l.length = n at *
  go_enter Try.func104, Try.ntmps104
  go_wp2_with fail
  go_ret
  exact ⟨rfl, rfl⟩
def inG (l : List (Int × Int)) (z : Int) : Bool := decide (0 ≤ z) && decide (z < (l.length : Int))
set_option maxHeartbeats 800000 in
theorem ghas_any (B g : Nat) (a : Option Addr) (c : Nat) (l : List (Int × Int)) (w : World) (h : GIs B g a c l w) (z : Int) :
    Calls Try.prog 108 #[.pointer (some ⟨g, 0, none⟩), .int .i64 z] w fun e w' => e = .returned (.bool (inG l z)) ∧ w = w' := by
  have q0 := cell_of_heap h.hd 0
  simp only [List.getElem?_toArray, List.getElem?_cons_zero] at q0
  unfold inG
  clear h
  generalize l.length = n at *
  by_cases h0 : 0 ≤ z
  · have d0 : decide (0 ≤ z) = true := by simpa using h0
    rw [d0, Bool.true_and]
    clear h0
    go_enter Try.func108, Try.ntmps108
    go_wp2_with fail
    go_ret
    exact ⟨rfl, rfl⟩
  · have d0 : decide (0 ≤ z) = false := by simpa using h0
    rw [d0, Bool.false_and]
    clear h0
    go_enter Try.func108, Try.ntmps108
    go_wp2_with fail
    go_ret
    exact ⟨rfl, rfl⟩
theorem inG_yes {l : List (Int × Int)} {z : Int} (h : inG l z = true) : ∃ (j : Nat) (p : Int × Int), z = (j : Nat) ∧ l[j]? = some p := by
  simp only [inG, Bool.and_eq_true, decide_eq_true_eq] at h
  exact ⟨z.toNat, _, by omega, List.getElem?_eq_getElem (by omega)⟩
theorem inG_of {l : List (Int × Int)} {j : Nat} {p : Int × Int} (h : l[j]? = some p) : inG l (j : Nat) = true := by
  have := (List.getElem?_eq_some_iff.1 h).1
  simp only [inG, Bool.and_eq_true, decide_eq_true_eq]
  omega
def atG (l : List (Int × Int)) (z : Int) : Int × Int := if inG l z then l.getD z.toNat (0, 0) else (0, 0)
theorem atG_of {l : List (Int × Int)} {j : Nat} {p : Int × Int} (h : l[j]? = some p) : atG l (j : Nat) = p := by
  rw [atG, if_pos (inG_of h), Int.toNat_natCast, List.getD_eq_getElem?_getD, h]
  rfl
def glyphA (p : Int × Int) : Value := .agg #[.int .i64 p.1, .int .i64 p.2]
set_option maxHeartbeats 800000 in
theorem gat_any (B g : Nat) (a : Option Addr) (c : Nat) (l : List (Int × Int)) (w : World) (h : GIs B g a c l w) (z : Int) :
    Calls Try.prog 60 #[.pointer (some ⟨g, 0, none⟩), .int .i64 z] w fun e w' => e = .returned (.tuple #[glyphA (atG l z), .bool (inG l z)]) ∧ Below w.heap.size w w' := by
  have hAC := allocC
  have hAF := allocF
  cases hin : inG l z with
  | false =>
    have hat : atG l z = (0, 0) := by rw [atG, if_neg (by rw [hin]; decide)]
    have HA := Lib.hid (fun W (hW : Below w.heap.size w W) => ghas_any B g a c l W (h.below hW) z)
    rw [hin] at HA
    rw [hat]
    clear hat h hin
    go_enter Try.func60, Try.ntmps60
    go_wp2_with (first | (go_at_call 108; (with_reducible refine (HA.out _ (by exact blw)).mono ?_); rintro e w_ ⟨rfl, rfl⟩))
    refine bodyPost_ret (v := .tuple #[.agg #[.int .i64 0, .int .i64 0], .bool false]) (by simp [results, Try.results60, go_sem, hAC, hAF]) rfl ?_
    exact ⟨rfl, blw⟩
  | true =>
    obtain ⟨j, p, rfl, hj⟩ := inG_yes hin
    rw [atG_of hj]
    have HA := Lib.hid (fun W (hW : Below w.heap.size w W) => ghas_any B g a c l W (h.below hW) (j : Nat))
    rw [hin] at HA
    obtain ⟨gb, rfl, _, hgb, hne, c1, c2, f1, f2, _⟩ := h.glyph hj
    have q0 := cell_of_heap h.hd 0
    simp only [List.getElem?_toArray, List.getElem?_cons_zero] at q0
    have hlt := (List.getElem?_eq_some_iff.1 hj).1
    have hg := (Array.getElem?_eq_some_iff.1 h.hd).1
    obtain ⟨p1, p2⟩ := p
    simp only [glyphA] at *
    clear h hin hj
    generalize l.length = n at *
    go_enter Try.func60, Try.ntmps60
    go_wp2_with (first | (go_at_call 108; (with_reducible refine (HA.out _ (by exact blw)).mono ?_); rintro e w_ ⟨rfl, rfl⟩))
    refine bodyPost_ret (v := .tuple #[.agg #[.int .i64 p1, .int .i64 p2], .bool true]) (by simp [results, Try.results60, go_sem, hAC, hAF]) rfl ?_
    exact ⟨rfl, blw⟩
end Go.Proofs.Ytaladlaffglkeaa
end
section

/- Contracts of line.New, and of the document's New, Turn, Clean, Set and Same of glyphs. Conditions: as many cells as the slices say; sizes. -/
namespace Go.Proofs.Ytaladlaffglkeaa
open Go.RowKit Go.Lib

def newG (ids : List Int) : List (Int × Int) := ids.mapIdx fun i z => (z, (i : Int))
theorem newG_length (ids : List Int) : (newG ids).length = ids.length := by simp [newG]
theorem newG_get (ids : List Int) (k : Nat) : (newG ids)[k]? = ids[k]?.map fun z => (z, (k : Int)) := by simp [newG]
def partN (ids : List Int) (k : Nat) : List (Int × Int) := (newG ids).take k ++ List.replicate (ids.length - k) (0, 0)
theorem partN_zero (ids : List Int) : partN ids 0 = List.replicate ids.length (0, 0) := by simp [partN]
theorem partN_all (ids : List Int) : partN ids ids.length = newG ids := by simp [partN, List.take_of_length_le (Nat.le_of_eq (newG_length ids))]
theorem partN_set (ids : List Int) (k : Nat) (z : Int) (h : ids[k]? = some z) : (partN ids k).set k (z, (k : Int)) = partN ids (k + 1) := by
  have hlt := (List.getElem?_eq_some_iff.1 h).1
  have hg : (newG ids)[k]? = some (z, (k : Int)) := by rw [newG_get, h]; rfl
  rw [partN, partN, List.take_add_one, hg, List.set_append, if_neg (by rw [List.length_take, newG_length]; omega)]
  rw [show ids.length - k = ids.length - (k + 1) + 1 by omega, List.replicate_succ]
  rw [List.length_take, newG_length, Nat.min_eq_left (by omega), Nat.sub_self, List.set_cons_zero]
  simp
set_option maxHeartbeats 1600000 in
theorem gnew_any (a : Option Addr) (n c : Nat) (ids : List Int) (w : World) (h : Has w a (iv ids)) (hl : ids.length = n) (hn : n ≤ 1000000) :
    Calls Try.prog 15 #[.slice a n c] w fun e w' => ∃ g a' c', e = .returned (.pointer (some ⟨g, 0, none⟩)) ∧ GIs w.heap.size g a' c' (newG ids) w' ∧ w.heap.size ≤ g ∧ Below w.heap.size w w' := by
  have HH := Lib.hid h
  have HL := Lib.hid hl
  clear h hl
  go_enter Try.func15, Try.ntmps15
  go_wp2_with (refine wpMake w rfl _ _ 41 rfl w.heap.size 117 (.agg #[.int .i64 0, .int .i64 0]) 2 16 Try.underlying41 info_glyph n rfl rfl (by omega) (by unfold maxLen; omega) (Nat.le_refl _) ?_; intro w1 hown hb1; rw [made_glyph] at hown; have HO := Lib.hid hown; clear hown)
  have hz1 := hb1.size
  have HB1 := Lib.hid hb1
  clear hb1
  go_loopw [11] (fun i wr => ∃ j : Nat, j ≤ n ∧ i = .int .i64 (j : Nat) ∧ wr.ownsRow w.heap.size 117 2 (.slice (some ⟨w.heap.size, 0, none⟩) n n) n (gv (partN ids j)) ∧ Below w.heap.size w wr) (fun i _ => n - (Go.RowKit.intOf i).toNat)
  case atStart => exact ⟨0, Nat.zero_le _, rfl, by rw [partN_zero, HL.out]; exact HO.out, HB1.out⟩
  case round =>
    obtain ⟨j, hj, rfl, hx, hb⟩ := hrel
    have HX := Lib.hid hx
    have HB := Lib.hid hb
    clear hx hb
    by_cases hlt : j < n
    · obtain ⟨gi, oi, z, rfl, hgi, hz, hci⟩ := iv_at (HH.out.below HB.out) (k := j) (by rw [HL.out]; exact hlt)
      obtain ⟨g2, cs2, u2, he, _, hh2, hc2, _, f2, hs2⟩ := row_at HX.out (j * 2) (by omega)
      obtain ⟨g3, cs3, u3, he3, _, hh3, hc3, _, f3, hs3⟩ := row_at (hs2 (.int .i64 z)) (j * 2 + 1) (by omega)
      cases he
      cases he3
      have hc3' : ∃ u, wr.cell? ⟨w.heap.size, j * 2 + 1, none⟩ = some u := by
        obtain ⟨_, _, u, he, _, _, hc, _⟩ := row_at HX.out (j * 2 + 1) (by omega)
        cases he
        exact ⟨u, hc⟩
      obtain ⟨u3', hc3'⟩ := hc3'
      have f3' : wr.frozen? ⟨w.heap.size, j * 2 + 1, none⟩ = false := by
        obtain ⟨_, _, u, he, _, _, _, _, hf, _⟩ := row_at HX.out (j * 2 + 1) (by omega)
        cases he
        exact hf
      have hs := hs3 (.int .i64 (j : Nat))
      rw [gv_set, partN_set ids j z hz] at hs
      have HS := Lib.hid hs
      have HB2 := Lib.hid ((HB.out.setCell (p := ⟨w.heap.size, j * 2, none⟩) (Nat.le_refl _) (.int .i64 z)).setCell (p := ⟨w.heap.size, j * 2 + 1, none⟩) (Nat.le_refl _) (.int .i64 (j : Nat)))
      clear hs hs2 hs3 hh2 hh3 hc3 f3 hz
      go_wp2_with fail
      go_roundw
      case rel => exact ⟨j + 1, hlt, by go_num, HS.out, HB2.out⟩
      case measure => simp [Go.RowKit.intOf]; omega
    · obtain rfl : n = j := by omega
      go_wp2_with fail
      go_ret
      have hzr := HB.out.size
      have ho := HX.out
      have hl := HL.out
      refine ⟨wr.heap.size, _, _, rfl, ⟨by rw [newG_length, hl]; exact heap_new _ _ _, ?_⟩, by omega, HB.out.alloc HB.out.size _⟩
      rw [newG_length, hl]
      rw [← hl] at ho ⊢
      rw [partN_all] at ho
      exact ho.alloc _
end Go.Proofs.Ytaladlaffglkeaa
end
section

/- slices.Insert at glyphs, onto a row of the call's own; (*line.Line).Insert. Conditions: rows of their own, apart; a place that is there; sizes. -/
namespace Go.Proofs.Ytaladlaffglkeaa
open Go.RowKit Go.Lib

/-- 'copy' into a row that is known whole, between elements of k cells. -/
theorem run_copyRowK {P : Program} (w : World) (dT sT ty elem : TypeId) (k g o dLen dCap : Nat) (a : Addr) (sLen sCap : Nat) (cur : Array Value) (t : TypeId) (cs : List Value)
    (hu : P.underlying dT = some (.slice elem)) (hs : (P.info? elem).map (·.size) = some k)
    (hg : w.heap[g]? = some (.cells cur t (0, 0))) (hn : cs.length = Nat.min sLen dLen * k)
    (hsrc : ∀ j v, cs[j]? = some v → w.cell? (a.add j) = some v) (hfit : o + cs.length ≤ cur.size) (h1 : ∀ v ∈ cs, v.oneCell' = true) :
    (Builtin.copy_ #[dT, sT] ty #[.slice (some ⟨g, o, none⟩) dLen dCap, .slice (some a) sLen sCap]).run P w =
      .ok (goInt (Nat.min sLen dLen)) (w.setRow g (splice cur.toList o cs).toArray) := by
  have hl := run_loadCells_list (P := P) w a cs hsrc
  have hst := run_storeCells_at P g o t cs 0 cur w hg (by simpa using hfit) h1
  cases hq : P.info? elem with
  | none => simp [hq] at hs
  | some i =>
    have hi : i.size = k := by simpa [hq] using hs
    simp [Builtin.copy_, run_underlying hu, Builtin.lenOf, Builtin.firstCells, sizeOf, typeInfo, hq, hi, ← hn, hl, hst, splice]
theorem wpCopyO {P : Program} {w : World} {o : Oper} {a : Act} {K : Act → World → Prop} {Q : Exit → Act → World → Prop} (d s : Operand) (dT sT : TypeId)
    (ho : o.op = .call { callee := .builtin .copy, args := #[d, s], argTypes := #[dT, sT] }) (elem : TypeId) (k : Nat) (hu : P.underlying dT = some (.slice elem)) (hsz : (P.info? elem).map (·.size) = some k)
    (g off dLen dCap : Nat) (ad : Addr) (sLen sCap : Nat) (hd : a.eval d = .slice (some ⟨g, off, none⟩) dLen dCap) (hs : a.eval s = .slice (some ad) sLen sCap)
    (cur : Array Value) (t : TypeId) (hg : w.heap[g]? = some (.cells cur t (0, 0))) (cs : List Value) (hn : cs.length = Nat.min sLen dLen * k)
    (hsrc : ∀ j v, cs[j]? = some v → w.cell? (ad.add j) = some v) (hfit : off + cs.length ≤ cur.size) (h1 : ∀ v ∈ cs, v.oneCell' = true)
    (h : ∀ w', w'.heap[g]? = some (.cells (splice cur.toList off cs).toArray t (0, 0)) → (∀ k, k ≠ g → w'.heap[k]? = w.heap[k]?) → w'.heap.size = w.heap.size → Below g w w' → K (a.put o.dst (goInt (Nat.min sLen dLen))) w') : o.wp P a w K Q := by
  have hrun := run_copyRowK (P := P) w dT sT o.type elem k g off dLen dCap ad sLen sCap cur t cs hu hsz hg hn hsrc hfit h1
  unfold Oper.wp
  simp [execOp, ho, resolve, invoke, builtin, hd, hs, hrun, Result.andThen]
  exact h _ (setRow_heap w g cur _ t _ hg) (fun k hk => setRow_other w g k _ hk) (by simp [World.setRow]) (below_setRow (Below.refl _ _) (Nat.le_refl _) _)
end Go.Proofs.Ytaladlaffglkeaa
end
section

/- slices.Insert at glyphs, whatever place; (*line.Line).Insert. Conditions: rows of their own, apart; sizes. -/
namespace Go.Proofs.Ytaladlaffglkeaa
open Go.RowKit Go.Lib

end Go.Proofs.Ytaladlaffglkeaa
end
section

/- line.isOrder; (*line.Line).Order; the document's Order. Conditions: a line in memory; as many numbers as the slice says; sizes. -/
namespace Go.Proofs.Ytaladlaffglkeaa
open Go.RowKit Go.Lib

/-- The numbers from 0 on, below how many they are, each once. -/
def IsOrd (o : List Int) : Prop := (∀ z ∈ o, 0 ≤ z ∧ z < (o.length : Int)) ∧ o.Nodup
instance (o : List Int) : Decidable (IsOrd o) := inferInstanceAs (Decidable (_ ∧ _))
end Go.Proofs.Ytaladlaffglkeaa
end
section

/- (*line.Line).Join, and the document's Join. Conditions: a line in memory; as many numbers as the slice says; sizes. -/
namespace Go.Proofs.Ytaladlaffglkeaa
open Go.RowKit Go.Lib

end Go.Proofs.Ytaladlaffglkeaa
end
section

/- (*line.Line).Insert. Conditions: a line in memory; as many numbers as the slice says; sizes. -/
namespace Go.Proofs.Ytaladlaffglkeaa
open Go.RowKit Go.Lib

end Go.Proofs.Ytaladlaffglkeaa
end
section

/- What an argument of glyphs, and one of numbers, is. No condition. -/
namespace Go.Proofs.Ytaladlaffglkeaa
open Go.ChangeShapes Go.WideShapes Go.ChangeAt Go.RowKit

section
variable {H : Type} {enc : TypeId × Value → H}
end
end Go.Proofs.Ytaladlaffglkeaa
end
