/- Joined from: GBase GOps IV GNew GIns GFrame GFrameW. -/
import Derived.Test.YtcegoenlajkgfaaJ01
import Derived.Test.YtcegoenlajkgfaaJ03
import Derived.Laws.CopyRow
import Derived.Laws.CopyOwn
import Derived.Lib.AppendZerosOnto
import Derived.Deep.AppendSrc
import Derived.Lib.Overlaps
import Derived.Lib.JoinLaws
import Derived.Laws.Externs
import Derived.ChangeSame
import Derived.Deep.Strs
section

/- Glyphs as cells; copy between rows of elements of more cells than one; a line in memory. Conditions: sizes, as the lemmas say. -/
namespace Go.Proofs.Ytcegoenlajkgfaa
open Go.RowKit

def gv (l : List (Int × Int)) : List Value := l.flatMap fun g => [.int .i64 g.1, .int .i64 g.2]
theorem gv_nil : gv [] = [] := rfl
theorem gv_cons (g : Int × Int) (l : List (Int × Int)) : gv (g :: l) = .int .i64 g.1 :: .int .i64 g.2 :: gv l := rfl
theorem gv_length : ∀ l, (gv l).length = l.length * 2
  | [] => rfl
  | g :: l => by rw [gv_cons, List.length_cons, List.length_cons, gv_length l, List.length_cons]; omega
theorem gv_take : ∀ (l : List (Int × Int)) (k : Nat), gv (l.take k) = (gv l).take (k * 2)
  | [], k => by simp [gv_nil]
  | g :: l, 0 => by simp [gv_nil]
  | g :: l, k + 1 => by rw [List.take_succ_cons, gv_cons, gv_cons, gv_take l k, show (k + 1) * 2 = k * 2 + 1 + 1 by omega, List.take_succ_cons, List.take_succ_cons]
theorem gv_one (l : List (Int × Int)) : ∀ u ∈ gv l, u.oneCell' = true := by
  intro u hu
  simp only [gv, List.mem_flatMap, List.mem_cons, List.not_mem_nil, or_false] at hu
  obtain ⟨g, _, rfl | rfl⟩ := hu <;> rfl
theorem gv_fst : ∀ {l : List (Int × Int)} {j : Nat} {g : Int × Int}, l[j]? = some g → (gv l)[j * 2]? = some (.int .i64 g.1)
  | [], j, g, h => by simp at h
  | x :: l, 0, g, h => by simp at h; subst h; rfl
  | x :: l, j + 1, g, h => by
    rw [gv_cons, show (j + 1) * 2 = j * 2 + 1 + 1 by omega, List.getElem?_cons_succ, List.getElem?_cons_succ]
    exact gv_fst (by simpa using h)
theorem gv_snd : ∀ {l : List (Int × Int)} {j : Nat} {g : Int × Int}, l[j]? = some g → (gv l)[j * 2 + 1]? = some (.int .i64 g.2)
  | [], j, g, h => by simp at h
  | x :: l, 0, g, h => by simp at h; subst h; rfl
  | x :: l, j + 1, g, h => by
    rw [gv_cons, show (j + 1) * 2 + 1 = j * 2 + 1 + 1 + 1 by omega, List.getElem?_cons_succ, List.getElem?_cons_succ]
    exact gv_snd (by simpa using h)
theorem gv_set : ∀ (l : List (Int × Int)) (j : Nat) (x y : Int), ((gv l).set (j * 2) (.int .i64 x)).set (j * 2 + 1) (.int .i64 y) = gv (l.set j (x, y))
  | [], j, x, y => by simp [gv_nil]
  | g :: l, 0, x, y => rfl
  | g :: l, j + 1, x, y => by
    rw [gv_cons, show (j + 1) * 2 = j * 2 + 1 + 1 by omega, List.set_cons_succ, List.set_cons_succ, List.set_cons_succ, List.set_cons_succ, gv_set l j x y, List.set_cons_succ, gv_cons]
theorem gv_set1 : ∀ (l : List (Int × Int)) (j : Nat) (x : Int) (g : Int × Int), l[j]? = some g → (gv l).set (j * 2) (.int .i64 x) = gv (l.set j (x, g.2))
  | [], j, x, g, h => by simp at h
  | g :: l, 0, x, g', h => by simp at h; subst h; rfl
  | g :: l, j + 1, x, g', h => by
    rw [gv_cons, show (j + 1) * 2 = j * 2 + 1 + 1 by omega, List.set_cons_succ, List.set_cons_succ, gv_set1 l j x g' (by simpa using h), List.set_cons_succ, gv_cons]
theorem gv_set2 : ∀ (l : List (Int × Int)) (j : Nat) (x : Int) (g : Int × Int), l[j]? = some g → (gv l).set (j * 2 + 1) (.int .i64 x) = gv (l.set j (g.1, x))
  | [], j, x, g, h => by simp at h
  | g :: l, 0, x, g', h => by simp at h; subst h; rfl
  | g :: l, j + 1, x, g', h => by
    rw [gv_cons, show (j + 1) * 2 + 1 = j * 2 + 1 + 1 + 1 by omega, List.set_cons_succ, List.set_cons_succ, gv_set2 l j x g' (by simpa using h), List.set_cons_succ, gv_cons]
theorem info_glyph : (Try.prog.info? 57).map (fun i => (i.zero, i.size, i.bytes)) = some (some (.agg #[.int .i64 0, .int .i64 0]), 2, 16) := by kernel_rfl
theorem made_glyph (n : Nat) : (madeCells (Value.agg #[.int .i64 0, .int .i64 0]).cells (n * 2)).toList = gv (List.replicate n (0, 0)) := by
  apply List.ext_getElem
  · simp [madeCells, gv_length]
  · intro i h1 h2
    have hlt : i < n * 2 := by rw [gv_length, List.length_replicate] at h2; exact h2
    have hd : i / 2 < n := by omega
    have hg : (List.replicate n ((0 : Int), (0 : Int)))[i / 2]? = some (0, 0) := by rw [List.getElem?_replicate, if_pos hd]
    have hr : (gv (List.replicate n (0, 0)))[i]? = some (.int .i64 0) := by
      rcases Nat.mod_two_eq_zero_or_one i with h | h
      · have := gv_fst hg; rwa [show i / 2 * 2 = i by omega] at this
      · have := gv_snd hg; rwa [show i / 2 * 2 + 1 = i by omega] at this
    rw [List.getElem?_eq_getElem h2] at hr
    rw [Option.some.inj hr]
    simp only [madeCells, Array.getElem_toList, Array.getElem_ofFn, Value.cells]
    rcases Nat.mod_two_eq_zero_or_one i with h | h <;> simp [h]

/-- A line in memory: a block of its own, and glyphs of its own. -/
structure GIs (B g : Nat) (a : Option Addr) (c : Nat) (l : List (Int × Int)) (w : World) : Prop where
  hd : w.heap[g]? = some (.cells #[.slice a l.length c] 93 (0, 0))
  row : w.ownsRow B 57 2 (.slice a l.length c) l.length (gv l)
/-- What a change of a line may touch: its block, and its glyphs'. -/
structure GStep (B g : Nat) (a a' : Option Addr) (w w' : World) : Prop where
  below : Below B w w'
  keep : ∀ k, k < w.heap.size → k ≠ g → some k ≠ a.map (·.block) → w'.heap[k]? = w.heap[k]?
  new : ∀ k, a'.map (·.block) = some k → a.map (·.block) = some k ∨ w.heap.size ≤ k
theorem GIs.below {B g : Nat} {a : Option Addr} {c : Nat} {l : List (Int × Int)} {w w' : World} (h : GIs B g a c l w) (hb : Below w.heap.size w w') : GIs B g a c l w' :=
  ⟨(hb.block g (Array.getElem?_eq_some_iff.1 h.hd).1).trans h.hd, owns_below h.row hb (Nat.le_refl _)⟩
theorem GIs.mono {B B' g : Nat} {a : Option Addr} {c : Nat} {l : List (Int × Int)} {w : World} (h : GIs B g a c l w) (hb : B' ≤ B) : GIs B' g a c l w := ⟨h.hd, owns_mono h.row hb⟩
theorem GIs.has {B g : Nat} {a : Option Addr} {c : Nat} {l : List (Int × Int)} {w : World} (h : GIs B g a c l w) : Has w a (gv l) := has_of_owns h.row
end Go.Proofs.Ytcegoenlajkgfaa
end
section

/- Contracts of package line's small functions: Clone at glyphs, New, Of, Len, Glyphs, has, At, Set. Conditions: a line in memory; sizes. -/
namespace Go.Proofs.Ytcegoenlajkgfaa
open Go.RowKit Go.Lib

theorem GIs.glyph {B g : Nat} {a : Option Addr} {c : Nat} {l : List (Int × Int)} {w : World} (h : GIs B g a c l w) {j : Nat} {p : Int × Int} (hj : l[j]? = some p) :
    ∃ gb, a = some ⟨gb, 0, none⟩ ∧ B ≤ gb ∧ gb < w.heap.size ∧ gb ≠ g ∧ w.cell? ⟨gb, j * 2, none⟩ = some (.int .i64 p.1) ∧ w.cell? ⟨gb, j * 2 + 1, none⟩ = some (.int .i64 p.2) ∧ w.frozen? ⟨gb, j * 2, none⟩ = false ∧ w.frozen? ⟨gb, j * 2 + 1, none⟩ = false ∧
      (∀ x, GIs B g a c (l.set j (x, p.2)) (w.setCell ⟨gb, j * 2, none⟩ (.int .i64 x))) ∧ (∀ x, GIs B g a c (l.set j (p.1, x)) (w.setCell ⟨gb, j * 2 + 1, none⟩ (.int .i64 x))) := by
  have hlt : j < l.length := (List.getElem?_eq_some_iff.1 hj).1
  obtain ⟨gb, cs, u, rfl, hB, hh, hc, _, hf, hs⟩ := row_at h.row (j * 2) (by omega)
  obtain ⟨gb', cs', u', ha', _, hh', hc', _, hf', hs'⟩ := row_at h.row (j * 2 + 1) (by omega)
  cases ha'
  have hne : gb ≠ g := by
    rintro rfl
    rw [h.hd] at hh
    injection hh with hh
    injection hh with _ h2 _
    exact absurd h2 (by decide)
  have e1 := h.row.cellAt (j * 2) (by omega)
  have e2 := h.row.cellAt (j * 2 + 1) (by omega)
  rw [gv_fst hj] at e1
  rw [gv_snd hj] at e2
  refine ⟨gb, rfl, hB, (Array.getElem?_eq_some_iff.1 hh).1, hne, e1, e2, hf, hf', fun x => ?_, fun x => ?_⟩
  · refine ⟨by rw [set_heap_other _ (Ne.symm hne), List.length_set]; exact h.hd, ?_⟩
    have := hs (.int .i64 x)
    rw [gv_set1 l j x p hj] at this
    rwa [List.length_set]
  · refine ⟨by rw [set_heap_other _ (Ne.symm hne), List.length_set]; exact h.hd, ?_⟩
    have := hs' (.int .i64 x)
    rw [gv_set2 l j x p hj] at this
    rwa [List.length_set]
theorem GStep.set {B g gb o : Nat} {a : Option Addr} {w : World} (v : Value) (ha : a = some ⟨gb, 0, none⟩) (hB : B ≤ gb) : GStep B g a a w (w.setCell ⟨gb, o, none⟩ v) :=
  ⟨(Below.refl _ _).setCell (p := ⟨gb, o, none⟩) hB v, fun k _ _ hk => Below.heap_setCell _ _ _ _ (by rintro rfl; exact hk (by rw [ha]; rfl)), fun _ h => .inl h⟩

theorem eqg_nil (w : World) (n c : Nat) : (binOp .eql 51 (.slice none n c) (.slice none 0 0)).run Try.prog w = .ok (.bool true) w := by kernel_rfl
theorem eqg_some (w : World) (p : Addr) (n c : Nat) : (binOp .eql 51 (.slice (some p) n c) (.slice none 0 0)).run Try.prog w = .ok (.bool false) w := by kernel_rfl
set_option maxHeartbeats 800000 in
theorem gclone_any (a : Option Addr) (n c : Nat) (l : List (Int × Int)) (w : World) (h : Has w a (gv l)) (hl : l.length = n) (hn : n ≤ 1000000) :
    Calls Try.prog 54 #[.slice a n c] w fun e w' => ∃ a' c', e = .returned (.slice a' n c') ∧ w'.ownsRow w.heap.size 57 2 (.slice a' n c') n (gv l) ∧ n ≤ c' ∧ c' ≤ maxLen ∧ (a' = none → c' = 0) ∧ Below w.heap.size w w' := by
  have HH := Lib.hid h
  have HL := Lib.hid hl
  have hE0 := eqg_nil
  have hE1 := eqg_some
  clear h hl
  cases a with
  | none =>
    go_enter Try.func54, Try.ntmps54
    go_wp2
    go_ret
    have h0 : l = [] := by
      rcases l with _ | ⟨b, bs⟩
      · rfl
      · obtain ⟨p, hp, _⟩ := HH.out 0 (.int .i64 b.1) (by simp [gv_cons])
        cases hp
    have hl := HL.out
    subst h0
    obtain rfl : n = 0 := by simpa using hl.symm
    exact ⟨none, 0, rfl, World.ownsRow_nil _ _ _ _, Nat.le_refl _, Nat.zero_le _, fun _ => rfl, brefl _⟩
  | some p =>
    go_enter Try.func54, Try.ntmps54
    go_wp2_with (at_builtin; refine wpApp rfl _ _ 51 rfl w.heap.size 57 (.agg #[.int .i64 0, .int .i64 0]) 2 16 Try.underlying51 info_glyph rfl (by decide) _ 0 [] rfl (World.ownsRow_lit w #[] 0 (Nat.le_refl _) (by decide) rfl) (some p) n c (gv l) rfl (by rw [gv_length, HL.out]) (HH.out.below (balloc (brefl _) _)) (fun h => by cases h) (gv_one l) (by unfold maxLen; omega) (by omega) (by simp) ?_; intro a1 c1 w1 hown k1 k2 k3 hb1 _; have HO := Lib.hid hown; clear hown)
    go_ret
    have e0 : 0 + n = n := Nat.zero_add n
    exact ⟨a1, c1, by rw [← e0]; rfl, by simpa using HO.out, by omega, k2, k3, (balloc (brefl _) _).trans hb1⟩

set_option maxHeartbeats 800000 in
theorem glen_any (B g : Nat) (a : Option Addr) (c : Nat) (l : List (Int × Int)) (w : World) (h : GIs B g a c l w) :
    Calls Try.prog 23 #[.pointer (some ⟨g, 0, none⟩)] w fun e w' => e = .returned (.int .i64 (l.length : Nat)) ∧ w = w' := by
  have q0 := cell_of_heap h.hd 0
  simp only [List.getElem?_toArray, List.getElem?_cons_zero] at q0
  clear h
  generalize l.length = n at *
  go_enter Try.func23, Try.ntmps23
  go_wp2_with fail
  go_ret
  exact ⟨rfl, rfl⟩
set_option maxHeartbeats 800000 in
theorem gglyphs_any (B g : Nat) (a : Option Addr) (c : Nat) (l : List (Int × Int)) (w : World) (h : GIs B g a c l w) (hn : l.length ≤ 1000000) :
    Calls Try.prog 21 #[.pointer (some ⟨g, 0, none⟩)] w fun e w' => ∃ a' c', e = .returned (.slice a' l.length c') ∧ w'.ownsRow w.heap.size 57 2 (.slice a' l.length c') l.length (gv l) ∧ l.length ≤ c' ∧ c' ≤ maxLen ∧ (a' = none → c' = 0) ∧ Below w.heap.size w w' := by
  have HC := Lib.hid (gclone_any a l.length c l w h.has rfl hn)
  have q0 := cell_of_heap h.hd 0
  simp only [List.getElem?_toArray, List.getElem?_cons_zero] at q0
  clear h
  generalize l.length = n at *
  go_enter Try.func21, Try.ntmps21
  go_wp2_with (go_at_call 54; refine HC.out.mono ?_; rintro e w1 ⟨a1, c1, rfl, hown, k1, k2, k3, hb1⟩; have HO := Lib.hid hown; clear hown)
  go_ret
  exact ⟨a1, c1, rfl, HO.out, k1, k2, k3, hb1⟩
def inG (l : List (Int × Int)) (z : Int) : Bool := decide (0 ≤ z) && decide (z < (l.length : Int))
set_option maxHeartbeats 800000 in
theorem ghas_any (B g : Nat) (a : Option Addr) (c : Nat) (l : List (Int × Int)) (w : World) (h : GIs B g a c l w) (z : Int) :
    Calls Try.prog 74 #[.pointer (some ⟨g, 0, none⟩), .int .i64 z] w fun e w' => e = .returned (.bool (inG l z)) ∧ w = w' := by
  have q0 := cell_of_heap h.hd 0
  simp only [List.getElem?_toArray, List.getElem?_cons_zero] at q0
  unfold inG
  clear h
  generalize l.length = n at *
  by_cases h0 : 0 ≤ z
  · have d0 : decide (0 ≤ z) = true := by simpa using h0
    rw [d0, Bool.true_and]
    clear h0
    go_enter Try.func74, Try.ntmps74
    go_wp2_with fail
    go_ret
    exact ⟨rfl, rfl⟩
  · have d0 : decide (0 ≤ z) = false := by simpa using h0
    rw [d0, Bool.false_and]
    clear h0
    go_enter Try.func74, Try.ntmps74
    go_wp2_with fail
    go_ret
    exact ⟨rfl, rfl⟩
theorem inG_yes {l : List (Int × Int)} {z : Int} (h : inG l z = true) : ∃ (j : Nat) (p : Int × Int), z = (j : Nat) ∧ l[j]? = some p := by
  simp only [inG, Bool.and_eq_true, decide_eq_true_eq] at h
  exact ⟨z.toNat, _, by omega, List.getElem?_eq_getElem (by omega)⟩
theorem inG_of {l : List (Int × Int)} {j : Nat} {p : Int × Int} (h : l[j]? = some p) : inG l (j : Nat) = true := by
  have := (List.getElem?_eq_some_iff.1 h).1
  simp only [inG, Bool.and_eq_true, decide_eq_true_eq]
  omega
def atG (l : List (Int × Int)) (z : Int) : Int × Int := if inG l z then l.getD z.toNat (0, 0) else (0, 0)
theorem atG_of {l : List (Int × Int)} {j : Nat} {p : Int × Int} (h : l[j]? = some p) : atG l (j : Nat) = p := by
  rw [atG, if_pos (inG_of h), Int.toNat_natCast, List.getD_eq_getElem?_getD, h]
  rfl
set_option maxHeartbeats 800000 in
theorem gset_any (B g : Nat) (a : Option Addr) (c : Nat) (l : List (Int × Int)) (w : World) (h : GIs B g a c l w) (z x : Int) :
    Calls Try.prog 65 #[.pointer (some ⟨g, 0, none⟩), .int .i64 z, .int .i64 x] w fun e w' => e = .returned (.bool (inG l z)) ∧ GIs B g a c (if inG l z then l.set z.toNat (x, (atG l z).2) else l) w' ∧ GStep B g a a w w' ∧ w'.heap.size = w.heap.size := by
  have HA := Lib.hid (ghas_any B g a c l w h z)
  have HG := Lib.hid h
  cases hin : inG l z with
  | false =>
    rw [hin] at HA
    clear hin h
    go_enter Try.func65, Try.ntmps65
    go_wp2_with (first | (go_at_call 74; (with_reducible refine HA.out.mono ?_); rintro e w_ ⟨rfl, rfl⟩))
    go_ret
    exact ⟨rfl, HG.out, ⟨Below.refl _ _, fun _ _ _ _ => rfl, fun _ h => .inl h⟩, rfl⟩
  | true =>
    obtain ⟨j, p, rfl, hj⟩ := inG_yes hin
    rw [atG_of hj, Int.toNat_natCast]
    rw [hin] at HA
    obtain ⟨gb, rfl, hBg, hgb, hne, c1, c2, f1, f2, hs1, _⟩ := h.glyph hj
    have q0 := cell_of_heap h.hd 0
    simp only [List.getElem?_toArray, List.getElem?_cons_zero] at q0
    have hlt := (List.getElem?_eq_some_iff.1 hj).1
    have HS := Lib.hid (hs1 x)
    clear h hin hj hs1
    generalize l.length = n at *
    go_enter Try.func65, Try.ntmps65
    go_wp2_with (first | (go_at_call 74; (with_reducible refine HA.out.mono ?_); rintro e w_ ⟨rfl, rfl⟩))
    go_ret
    exact ⟨rfl, HS.out, GStep.set _ rfl hBg, by simp⟩
theorem grow_at {w : World} {B n c : Nat} {a : Option Addr} {l : List (Int × Int)} (h : w.ownsRow B 57 2 (.slice a n c) n (gv l)) (hl : l.length = n) {j : Nat} (hj : j < n) :
    ∃ g p, a = some ⟨g, 0, none⟩ ∧ B ≤ g ∧ g < w.heap.size ∧ l[j]? = some p ∧ w.cell? ⟨g, j * 2, none⟩ = some (.int .i64 p.1) ∧ w.cell? ⟨g, j * 2 + 1, none⟩ = some (.int .i64 p.2) ∧ w.frozen? ⟨g, j * 2, none⟩ = false ∧ w.frozen? ⟨g, j * 2 + 1, none⟩ = false ∧
      (∀ x, (w.setCell ⟨g, j * 2, none⟩ (.int .i64 x)).ownsRow B 57 2 (.slice a n c) n (gv (l.set j (x, p.2)))) ∧ (∀ x, (w.setCell ⟨g, j * 2 + 1, none⟩ (.int .i64 x)).ownsRow B 57 2 (.slice a n c) n (gv (l.set j (p.1, x)))) := by
  obtain ⟨p, hp⟩ : ∃ p, l[j]? = some p := ⟨_, List.getElem?_eq_getElem (by omega)⟩
  obtain ⟨g, cs, u, rfl, hB, hh, hc, _, hf, hs⟩ := row_at h (j * 2) (by omega)
  obtain ⟨g', cs', u', ha', _, hh', hc', _, hf', hs'⟩ := row_at h (j * 2 + 1) (by omega)
  cases ha'
  have e1 := h.cellAt (j * 2) (by omega)
  have e2 := h.cellAt (j * 2 + 1) (by omega)
  rw [gv_fst hp] at e1
  rw [gv_snd hp] at e2
  refine ⟨g, p, rfl, hB, (Array.getElem?_eq_some_iff.1 hh).1, hp, e1, e2, hf, hf', fun x => ?_, fun x => ?_⟩
  · have := hs (.int .i64 x)
    rwa [gv_set1 l j x p hp] at this
  · have := hs' (.int .i64 x)
    rwa [gv_set2 l j x p hp] at this
end Go.Proofs.Ytcegoenlajkgfaa
end
section

/- Rows of numbers as cells. No condition of its own. -/
namespace Go.Proofs.Ytcegoenlajkgfaa
open Go.RowKit

def iv (ids : List Int) : List Value := ids.map fun z => .int .i64 z
theorem iv_get {ids : List Int} {j : Nat} {z : Int} (h : ids[j]? = some z) : (iv ids)[j]? = some (.int .i64 z) := by simp [iv, List.getElem?_map, h]
theorem iv_length (ids : List Int) : (iv ids).length = ids.length := by simp [iv]
/-- A number of a slice of numbers. -/
theorem iv_at {w : World} {a : Option Addr} {ids : List Int} (h : Has w a (iv ids)) {k : Nat} (hk : k < ids.length) : ∃ g o z, a = some ⟨g, o, none⟩ ∧ g < w.heap.size ∧ ids[k]? = some z ∧ w.cell? ⟨g, o + k, none⟩ = some (.int .i64 z) := by
  obtain ⟨g, o, ha, hg, hx⟩ := h.get (by rw [iv_length]; omega)
  exact ⟨g, o, ids[k], ha, hg, List.getElem?_eq_getElem hk, hx k _ (iv_get (List.getElem?_eq_getElem hk))⟩
end Go.Proofs.Ytcegoenlajkgfaa
end
section

/- Contracts of line.New, and of the document's New, Turn, Clean, Set and Same of glyphs. Conditions: as many cells as the slices say; sizes. -/
namespace Go.Proofs.Ytcegoenlajkgfaa
open Go.RowKit Go.Lib

def newG (ids : List Int) : List (Int × Int) := ids.mapIdx fun i z => (z, (i : Int))
theorem newG_length (ids : List Int) : (newG ids).length = ids.length := by simp [newG]
theorem newG_get (ids : List Int) (k : Nat) : (newG ids)[k]? = ids[k]?.map fun z => (z, (k : Int)) := by simp [newG]
def partN (ids : List Int) (k : Nat) : List (Int × Int) := (newG ids).take k ++ List.replicate (ids.length - k) (0, 0)
theorem partN_zero (ids : List Int) : partN ids 0 = List.replicate ids.length (0, 0) := by simp [partN]
theorem partN_all (ids : List Int) : partN ids ids.length = newG ids := by simp [partN, List.take_of_length_le (Nat.le_of_eq (newG_length ids))]
theorem partN_set (ids : List Int) (k : Nat) (z : Int) (h : ids[k]? = some z) : (partN ids k).set k (z, (k : Int)) = partN ids (k + 1) := by
  have hlt := (List.getElem?_eq_some_iff.1 h).1
  have hg : (newG ids)[k]? = some (z, (k : Int)) := by rw [newG_get, h]; rfl
  rw [partN, partN, List.take_add_one, hg, List.set_append, if_neg (by rw [List.length_take, newG_length]; omega)]
  rw [show ids.length - k = ids.length - (k + 1) + 1 by omega, List.replicate_succ]
  rw [List.length_take, newG_length, Nat.min_eq_left (by omega), Nat.sub_self, List.set_cons_zero]
  simp
set_option maxHeartbeats 1600000 in
theorem gnew_any (a : Option Addr) (n c : Nat) (ids : List Int) (w : World) (h : Has w a (iv ids)) (hl : ids.length = n) (hn : n ≤ 1000000) :
    Calls Try.prog 17 #[.slice a n c] w fun e w' => ∃ g a' c', e = .returned (.pointer (some ⟨g, 0, none⟩)) ∧ GIs w.heap.size g a' c' (newG ids) w' ∧ w.heap.size ≤ g ∧ Below w.heap.size w w' := by
  have HH := Lib.hid h
  have HL := Lib.hid hl
  clear h hl
  go_enter Try.func17, Try.ntmps17
  go_wp2_with (refine wpMake w rfl _ _ 51 rfl w.heap.size 57 (.agg #[.int .i64 0, .int .i64 0]) 2 16 Try.underlying51 info_glyph n rfl rfl (by omega) (by unfold maxLen; omega) (Nat.le_refl _) ?_; intro w1 hown hb1; rw [made_glyph] at hown; have HO := Lib.hid hown; clear hown)
  have hz1 := hb1.size
  have HB1 := Lib.hid hb1
  clear hb1
  go_loopw [11] (fun i wr => ∃ j : Nat, j ≤ n ∧ i = .int .i64 (j : Nat) ∧ wr.ownsRow w.heap.size 57 2 (.slice (some ⟨w.heap.size, 0, none⟩) n n) n (gv (partN ids j)) ∧ Below w.heap.size w wr) (fun i _ => n - (Go.RowKit.intOf i).toNat)
  case atStart => exact ⟨0, Nat.zero_le _, rfl, by rw [partN_zero, HL.out]; exact HO.out, HB1.out⟩
  case round =>
    obtain ⟨j, hj, rfl, hx, hb⟩ := hrel
    have HX := Lib.hid hx
    have HB := Lib.hid hb
    clear hx hb
    by_cases hlt : j < n
    · obtain ⟨gi, oi, z, rfl, hgi, hz, hci⟩ := iv_at (HH.out.below HB.out) (k := j) (by rw [HL.out]; exact hlt)
      obtain ⟨g2, cs2, u2, he, _, hh2, hc2, _, f2, hs2⟩ := row_at HX.out (j * 2) (by omega)
      obtain ⟨g3, cs3, u3, he3, _, hh3, hc3, _, f3, hs3⟩ := row_at (hs2 (.int .i64 z)) (j * 2 + 1) (by omega)
      cases he
      cases he3
      have hc3' : ∃ u, wr.cell? ⟨w.heap.size, j * 2 + 1, none⟩ = some u := by
        obtain ⟨_, _, u, he, _, _, hc, _⟩ := row_at HX.out (j * 2 + 1) (by omega)
        cases he
        exact ⟨u, hc⟩
      obtain ⟨u3', hc3'⟩ := hc3'
      have f3' : wr.frozen? ⟨w.heap.size, j * 2 + 1, none⟩ = false := by
        obtain ⟨_, _, u, he, _, _, _, _, hf, _⟩ := row_at HX.out (j * 2 + 1) (by omega)
        cases he
        exact hf
      have hs := hs3 (.int .i64 (j : Nat))
      rw [gv_set, partN_set ids j z hz] at hs
      have HS := Lib.hid hs
      have HB2 := Lib.hid ((HB.out.setCell (p := ⟨w.heap.size, j * 2, none⟩) (Nat.le_refl _) (.int .i64 z)).setCell (p := ⟨w.heap.size, j * 2 + 1, none⟩) (Nat.le_refl _) (.int .i64 (j : Nat)))
      clear hs hs2 hs3 hh2 hh3 hc3 f3 hz
      go_wp2_with fail
      go_roundw
      case rel => exact ⟨j + 1, hlt, by go_num, HS.out, HB2.out⟩
      case measure => simp [Go.RowKit.intOf]; omega
    · obtain rfl : n = j := by omega
      go_wp2_with fail
      go_ret
      have hzr := HB.out.size
      have ho := HX.out
      have hl := HL.out
      refine ⟨wr.heap.size, _, _, rfl, ⟨by rw [newG_length, hl]; exact heap_new _ _ _, ?_⟩, by omega, HB.out.alloc HB.out.size _⟩
      rw [newG_length, hl]
      rw [← hl] at ho ⊢
      rw [partN_all] at ho
      exact ho.alloc _
def setG (l : List (Int × Int)) (z x : Int) : List (Int × Int) := if inG l z then l.set z.toNat (x, (atG l z).2) else l
theorem setG_of {l : List (Int × Int)} {j : Nat} {p : Int × Int} (h : l[j]? = some p) (x : Int) : setG l (j : Nat) x = l.set j (x, p.2) := by rw [setG, if_pos (inG_of h), atG_of h, Int.toNat_natCast]
end Go.Proofs.Ytcegoenlajkgfaa
end
section

/- slices.Insert at glyphs, onto a row of the call's own; (*line.Line).Insert. Conditions: rows of their own, apart; a place that is there; sizes. -/
namespace Go.Proofs.Ytcegoenlajkgfaa
open Go.RowKit Go.Lib

end Go.Proofs.Ytcegoenlajkgfaa
end
section

/- What an argument of glyphs, and one of numbers, is. No condition. -/
namespace Go.Proofs.Ytcegoenlajkgfaa
open Go.ChangeShapes Go.WideShapes Go.ChangeAt Go.RowKit

section
variable {H : Type} {enc : TypeId × Value → H}
set_option maxRecDepth 100000 in
theorem open_ids {W : World} {base : Nat} {v : Value} {d : DataW H} {p : List MemPlace} (hv : Value.okWide Try.prog W .any base 30 v) (h : DataW.Trod enc Try.prog W 0 (fun _ => true) true 30 v d p) :
    ∃ (a : Option Addr) (n c : Nat) (zs : List Int), v = .slice a n c ∧ zs.length = n ∧ n ≤ c ∧ c ≤ maxLen ∧ (a = none → c = 0) ∧ Has W a (iv zs) ∧ ∀ z ∈ zs, -9223372036854775808 ≤ z ∧ z ≤ 9223372036854775807 := by
  obtain ⟨a, n, c, zs, h1, h2, h3, h4, h5, h6, h7⟩ := open_nums Try.underlying30 Try.underlying3 hv h
  exact ⟨a, n, c, zs, h1, h2, h3, h4, h5, h6, fun z hz => wf_i64 (h7 z hz)⟩
end
end Go.Proofs.Ytcegoenlajkgfaa
end
section

/- What an argument of glyphs is, with its numbers' bounds. No condition. -/
namespace Go.Proofs.Ytcegoenlajkgfaa
open Go.ChangeShapes Go.WideShapes Go.ChangeAt Go.RowKit

section
variable {H : Type} {enc : TypeId × Value → H}
end
end Go.Proofs.Ytcegoenlajkgfaa
end
