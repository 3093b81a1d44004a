/- Joined from: PlA PlB PlC PlS. -/
import Derived.Test.YtaladlaffglkeaaJ01
import Derived.Test.YtaladlaffglkeaaJ13
import Derived.Shelf.SlicesQ.Reverse
import Derived.Test.YtaladlaffglkeaaJ03
import Derived.Test.YtaladlaffglkeaaShelfG
section

/- Places as cells; Clamp and Add, the code's and the document's; what Along, Across, Level and Shift make of a list of places. Conditions: sizes. -/
namespace Go.Proofs.Ytaladlaffglkeaa
open Go.RowKit Go.Lib

def clampZ (n : Int) : Int := if 2147483647 < n then 2147483647 else if n < -2147483648 then -2147483648 else n
def addZ (a n : Int) : Int := clampZ (a + clampZ n)
theorem clampZ_in (n : Int) : -2147483648 ≤ clampZ n ∧ clampZ n ≤ 2147483647 := by unfold clampZ; split <;> (try split) <;> omega
theorem clampZ_id {n : Int} (h : -2147483648 ≤ n ∧ n ≤ 2147483647) : clampZ n = n := by unfold clampZ; rw [if_neg (by omega), if_neg (by omega)]
theorem addZ_zero {a : Int} (h : -2147483648 ≤ a ∧ a ≤ 2147483647) : addZ a 0 = a := by unfold addZ; rw [clampZ_id (n := 0) (by omega), Int.add_zero, clampZ_id h]
theorem addZ_in (a n : Int) : -2147483648 ≤ addZ a n ∧ addZ a n ≤ 2147483647 := clampZ_in _
set_option maxHeartbeats 400000 in
theorem clamp_any (n : Int) (w : World) : Calls Try.prog 79 #[.int .i64 n] w fun e w' => e = .returned (.int .i32 (clampZ n)) ∧ w = w' := by
  go_enter Try.func79, Try.ntmps79
  go_wp2_with fail
  all_goals go_ret
  all_goals exact ⟨congrArg (fun z => Ending.returned (.int .i32 z)) (show _ = clampZ n by unfold clampZ; (repeat' split at *) <;> omega), rfl⟩
set_option maxHeartbeats 400000 in
theorem add_any (a n : Int) (ha : -2147483648 ≤ a ∧ a ≤ 2147483647) (w : World) : Calls Try.prog 162 #[.int .i32 a, .int .i64 n] w fun e w' => e = .returned (.int .i32 (addZ a n)) ∧ w = w' := by
  have hi := clampZ_in n
  have HC := Lib.hid (fun W => clamp_any n W)
  have HD := Lib.hid (fun W => clamp_any (a + clampZ n) W)
  have HE := Lib.hid (show clampZ (a + clampZ n) = addZ a n from rfl)
  generalize clampZ n = m at *
  have w1 : IntKind.i64.wrap a = a := IntWalk.i64_in _ (by omega)
  have w2 : IntKind.i64.wrap m = m := IntWalk.i64_in _ (by omega)
  have w3 : IntKind.i64.wrap (a + m) = a + m := IntWalk.i64_in _ (by omega)
  go_enter Try.func162, Try.ntmps162
  go_wp2_with (first | (go_at_call 79; (with_reducible refine (HC.out _).mono ?_); rintro e w_ ⟨rfl, rfl⟩) | (go_at_call 79; (with_reducible refine (HD.out _).mono ?_); rintro e w_ ⟨rfl, rfl⟩))
  go_ret
  exact ⟨by first | rfl | (rw [HE.out]; rfl), rfl⟩
/-- A place: how far it moves on, and how far it stands off. -/
abbrev Pl := Int × Int × Int
def pl1 (p : Pl) : List Value := [.int .i32 p.1, .int .i32 p.2.1, .int .i32 p.2.2]
def pv (l : List Pl) : List Value := l.flatMap pl1
theorem pv_cons (p : Pl) (l : List Pl) : pv (p :: l) = .int .i32 p.1 :: .int .i32 p.2.1 :: .int .i32 p.2.2 :: pv l := rfl
theorem pv_length : ∀ l, (pv l).length = l.length * 3
  | [] => rfl
  | p :: l => by rw [pv_cons, List.length_cons, List.length_cons, List.length_cons, pv_length l, List.length_cons]; omega
theorem pv_one (l : List Pl) : ∀ u ∈ pv l, u.oneCell' = true := by
  intro u hu
  simp only [pv, pl1, List.mem_flatMap, List.mem_cons, List.not_mem_nil, or_false] at hu
  obtain ⟨g, _, rfl | rfl | rfl⟩ := hu <;> rfl
theorem pv_get : ∀ {l : List Pl} {j : Nat} {p : Pl}, l[j]? = some p → ∀ i, i < 3 → (pv l)[j * 3 + i]? = (pl1 p)[i]?
  | [], j, p, h, _, _ => by simp at h
  | x :: l, 0, p, h, i, hi => by
    simp at h
    subst h
    rw [pv, List.flatMap_cons, Nat.zero_mul, Nat.zero_add, List.getElem?_append_left (by simp [pl1]; exact hi)]
  | x :: l, j + 1, p, h, i, hi => by
    rw [pv, List.flatMap_cons, List.getElem?_append_right (by simp [pl1]; omega), show (j + 1) * 3 + i - (pl1 x).length = j * 3 + i by simp [pl1]; omega]
    exact pv_get (by simpa using h) i hi
theorem pv_set : ∀ (l : List Pl) (j : Nat) (p q : Pl), l[j]? = some p → (∀ x, q = (x, p.2) → (pv l).set (j * 3) (.int .i32 x) = pv (l.set j q)) ∧ (∀ x, q = (p.1, x, p.2.2) → (pv l).set (j * 3 + 1) (.int .i32 x) = pv (l.set j q)) ∧ (∀ x, q = (p.1, p.2.1, x) → (pv l).set (j * 3 + 2) (.int .i32 x) = pv (l.set j q))
  | [], j, p, q, h => by simp at h
  | g :: l, 0, p, q, h => by
    simp at h
    subst h
    exact ⟨fun x e => by subst e; rfl, fun x e => by subst e; rfl, fun x e => by subst e; rfl⟩
  | g :: l, j + 1, p, q, h => by
    obtain ⟨h1, h2, h3⟩ := pv_set l j p q (by simpa using h)
    refine ⟨fun x e => ?_, fun x e => ?_, fun x e => ?_⟩
    · rw [pv_cons, show (j + 1) * 3 = j * 3 + 1 + 1 + 1 by omega, List.set_cons_succ, List.set_cons_succ, List.set_cons_succ, h1 x e, List.set_cons_succ, pv_cons]
    · rw [pv_cons, show (j + 1) * 3 + 1 = j * 3 + 1 + 1 + 1 + 1 by omega, List.set_cons_succ, List.set_cons_succ, List.set_cons_succ, h2 x e, List.set_cons_succ, pv_cons]
    · rw [pv_cons, show (j + 1) * 3 + 2 = j * 3 + 2 + 1 + 1 + 1 by omega, List.set_cons_succ, List.set_cons_succ, List.set_cons_succ, h3 x e, List.set_cons_succ, pv_cons]
theorem info_place : (Try.prog.info? 84).map (fun i => (i.zero, i.size, i.bytes)) = some (some (.agg #[.int .i32 0, .int .i32 0, .int .i32 0]), 3, 12) := by kernel_rfl
theorem made_place (n : Nat) : (madeCells (Value.agg #[.int .i32 0, .int .i32 0, .int .i32 0]).cells (n * 3)).toList = pv (List.replicate n (0, 0, 0)) := by
  apply List.ext_getElem
  · simp [madeCells, pv_length]
  · intro i h1 h2
    have hlt : i < n * 3 := by rw [pv_length, List.length_replicate] at h2; exact h2
    have hd : i / 3 < n := by omega
    have hm : i % 3 < 3 := Nat.mod_lt _ (by decide)
    have hg : (List.replicate n ((0 : Int), (0 : Int), (0 : Int)))[i / 3]? = some (0, 0, 0) := by rw [List.getElem?_replicate, if_pos hd]
    have hr : (pv (List.replicate n (0, 0, 0)))[i]? = some (.int .i32 0) := by
      have := pv_get hg (i % 3) hm
      rw [show i / 3 * 3 + i % 3 = i by omega] at this
      rw [this]
      have : i % 3 = 0 ∨ i % 3 = 1 ∨ i % 3 = 2 := by omega
      rcases this with h | h | h <;> rw [h] <;> rfl
    rw [List.getElem?_eq_getElem h2] at hr
    rw [Option.some.inj hr]
    simp only [madeCells, Array.getElem_toList, Array.getElem_ofFn, Value.cells]
    have : i % 3 = 0 ∨ i % 3 = 1 ∨ i % 3 = 2 := by omega
    rcases this with h | h | h <;> simp [h]
/-- A place of a slice of places. -/
theorem pv_at {w : World} {a : Option Addr} {l : List Pl} (h : Has w a (pv l)) {k : Nat} (hk : k < l.length) : ∃ g o p, a = some ⟨g, o, none⟩ ∧ g < w.heap.size ∧ l[k]? = some p ∧ w.cell? ⟨g, o + k * 3, none⟩ = some (.int .i32 p.1) ∧ w.cell? ⟨g, o + k * 3 + 1, none⟩ = some (.int .i32 p.2.1) ∧ w.cell? ⟨g, o + k * 3 + 2, none⟩ = some (.int .i32 p.2.2) := by
  obtain ⟨g, o, ha, hg, hx⟩ := h.get (by rw [pv_length]; omega)
  have hp := List.getElem?_eq_getElem hk
  refine ⟨g, o, l[k], ha, hg, hp, hx _ _ (pv_get hp 0 (by decide)), ?_, ?_⟩
  · rw [Nat.add_assoc]; exact hx _ _ (pv_get hp 1 (by decide))
  · rw [Nat.add_assoc]; exact hx _ _ (pv_get hp 2 (by decide))
def In32 (l : List Pl) : Prop := ∀ p ∈ l, (-2147483648 ≤ p.1 ∧ p.1 ≤ 2147483647) ∧ (-2147483648 ≤ p.2.1 ∧ p.2.1 ≤ 2147483647) ∧ (-2147483648 ≤ p.2.2 ∧ p.2.2 ≤ 2147483647)
theorem In32.get {l : List Pl} (h : In32 l) {j : Nat} {p : Pl} (hj : l[j]? = some p) : (-2147483648 ≤ p.1 ∧ p.1 ≤ 2147483647) ∧ (-2147483648 ≤ p.2.1 ∧ p.2.1 ≤ 2147483647) ∧ (-2147483648 ≤ p.2.2 ∧ p.2.2 ≤ 2147483647) := h p (List.mem_of_getElem? hj)
theorem In32.set {l : List Pl} (h : In32 l) (j : Nat) (p : Pl) (hp : (-2147483648 ≤ p.1 ∧ p.1 ≤ 2147483647) ∧ (-2147483648 ≤ p.2.1 ∧ p.2.1 ≤ 2147483647) ∧ (-2147483648 ≤ p.2.2 ∧ p.2.2 ≤ 2147483647)) : In32 (l.set j p) := fun q hq => by
  rcases List.mem_or_eq_of_mem_set hq with h' | rfl
  · exact h q h'
  · exact hp
def inPl (l : List Pl) (z : Int) : Bool := decide (0 ≤ z) && decide (z < (l.length : Int))
theorem inPl_yes {l : List Pl} {z : Int} (h : inPl l z = true) : ∃ j p, z = ((j : Nat) : Int) ∧ l[j]? = some p := by
  simp only [inPl, Bool.and_eq_true, decide_eq_true_eq] at h
  refine ⟨z.toNat, l[z.toNat]'(by omega), by omega, List.getElem?_eq_getElem (by omega)⟩
def newP (ids : List Int) : List Pl := ids.map fun z => (clampZ z, 0, 0)
theorem newP_length (ids : List Int) : (newP ids).length = ids.length := by simp [newP]
theorem newP_in (ids : List Int) : In32 (newP ids) := fun p hp => by
  simp only [newP, List.mem_map] at hp
  obtain ⟨z, _, rfl⟩ := hp
  have := clampZ_in z
  exact ⟨this, by simp, by simp⟩
/-- With so much more of one. -/
def moreP (l : List Pl) (z a x y : Int) : List Pl := if inPl l z then (match l[z.toNat]? with | some p => l.set z.toNat (addZ p.1 a, addZ p.2.1 x, addZ p.2.2 y) | none => l) else l
theorem moreP_of {l : List Pl} {j : Nat} {p : Pl} (h : l[j]? = some p) (a x y : Int) : moreP l (j : Nat) a x y = l.set j (addZ p.1 a, addZ p.2.1 x, addZ p.2.2 y) := by
  have hlt := (List.getElem?_eq_some_iff.1 h).1
  rw [moreP, if_pos (by simp [inPl]; omega), Int.toNat_natCast, h]
theorem moreP_no {l : List Pl} {z : Int} (h : inPl l z = false) (a x y : Int) : moreP l z a x y = l := by rw [moreP, h]; rfl
theorem moreP_length (l : List Pl) (z a x y : Int) : (moreP l z a x y).length = l.length := by
  unfold moreP
  split
  · split <;> simp
  · rfl
theorem moreP_in {l : List Pl} (h : In32 l) (z a x y : Int) : In32 (moreP l z a x y) := by
  cases hin : inPl l z with
  | false => rw [moreP_no hin]; exact h
  | true =>
    obtain ⟨j, p, rfl, hj⟩ := inPl_yes hin
    rw [moreP_of hj]
    exact h.set _ _ ⟨addZ_in _ _, addZ_in _ _, addZ_in _ _⟩
def acrossP (d : Bool) (l : List Pl) (z n : Int) : List Pl := if d then moreP l z 0 n 0 else moreP l z 0 0 n
def levelP (d : Bool) (l : List Pl) (z : Int) : List Pl := if inPl l z then (match l[z.toNat]? with | some p => l.set z.toNat (if d then (p.1, 0, p.2.2) else (p.1, p.2.1, 0)) | none => l) else l
theorem levelP_of {l : List Pl} {j : Nat} {p : Pl} (h : l[j]? = some p) (d : Bool) : levelP d l (j : Nat) = l.set j (if d then (p.1, 0, p.2.2) else (p.1, p.2.1, 0)) := by
  have hlt := (List.getElem?_eq_some_iff.1 h).1
  rw [levelP, if_pos (by simp [inPl]; omega), Int.toNat_natCast, h]
theorem levelP_no {l : List Pl} {z : Int} (h : inPl l z = false) (d : Bool) : levelP d l z = l := by rw [levelP, h]; rfl
theorem levelP_length (d : Bool) (l : List Pl) (z : Int) : (levelP d l z).length = l.length := by
  unfold levelP
  split
  · split <;> simp
  · rfl
theorem levelP_in {l : List Pl} (h : In32 l) (d : Bool) (z : Int) : In32 (levelP d l z) := by
  cases hin : inPl l z with
  | false => rw [levelP_no hin]; exact h
  | true =>
    obtain ⟨j, p, rfl, hj⟩ := inPl_yes hin
    rw [levelP_of hj]
    obtain ⟨h1, h2, h3⟩ := h.get hj
    refine h.set _ _ ?_
    split
    · exact ⟨h1, by simp, h3⟩
    · exact ⟨h1, h2, by simp⟩
end Go.Proofs.Ytaladlaffglkeaa
end
section

/- Places in memory: New, Len, All, Along, Across, Level, Shift, Turn. Conditions: as many as the slice says; sizes. -/
namespace Go.Proofs.Ytaladlaffglkeaa
open Go.RowKit Go.Lib Go.Sort

structure PlIs (B g : Nat) (d : Bool) (a : Option Addr) (c : Nat) (l : List Pl) (w : World) : Prop where
  hd : w.heap[g]? = some (.cells #[.bool d, .slice a l.length c] 172 (0, 0))
  row : w.ownsRow B 84 3 (.slice a l.length c) l.length (pv l)
theorem PlIs.below {B g : Nat} {d : Bool} {a : Option Addr} {c : Nat} {l : List Pl} {w w' : World} (h : PlIs B g d a c l w) (hb : Below w.heap.size w w') : PlIs B g d a c l w' :=
  ⟨(hb.block g (Array.getElem?_eq_some_iff.1 h.hd).1).trans h.hd, owns_below h.row hb (Nat.le_refl _)⟩
theorem PlIs.mono {B B' g : Nat} {d : Bool} {a : Option Addr} {c : Nat} {l : List Pl} {w : World} (h : PlIs B g d a c l w) (hb : B' ≤ B) : PlIs B' g d a c l w := ⟨h.hd, owns_mono h.row hb⟩
theorem PlIs.has {B g : Nat} {d : Bool} {a : Option Addr} {c : Nat} {l : List Pl} {w : World} (h : PlIs B g d a c l w) : Has w a (pv l) := has_of_owns h.row
theorem PlIs.set {B g : Nat} {d : Bool} {a : Option Addr} {c : Nat} {l : List Pl} {w : World} (h : PlIs B g d a c l w) {j : Nat} {p : Pl} (hj : l[j]? = some p) :
    ∃ gb, a = some ⟨gb, 0, none⟩ ∧ B ≤ gb ∧ gb < w.heap.size ∧ gb ≠ g ∧ w.cell? ⟨gb, j * 3, none⟩ = some (.int .i32 p.1) ∧ w.cell? ⟨gb, j * 3 + 1, none⟩ = some (.int .i32 p.2.1) ∧ w.cell? ⟨gb, j * 3 + 2, none⟩ = some (.int .i32 p.2.2) ∧ (∀ o, w.frozen? ⟨gb, o, none⟩ = false) ∧
      (∀ x, PlIs B g d a c (l.set j (x, p.2)) (w.setCell ⟨gb, j * 3, none⟩ (.int .i32 x))) ∧ (∀ x, PlIs B g d a c (l.set j (p.1, x, p.2.2)) (w.setCell ⟨gb, j * 3 + 1, none⟩ (.int .i32 x))) ∧ (∀ x, PlIs B g d a c (l.set j (p.1, p.2.1, x)) (w.setCell ⟨gb, j * 3 + 2, none⟩ (.int .i32 x))) := by
  have hlt : j < l.length := (List.getElem?_eq_some_iff.1 hj).1
  obtain ⟨gb, cs, u, rfl, hB, hh, hc, _, hf, hs⟩ := row_at h.row (j * 3) (by omega)
  obtain ⟨gb', cs', u', ha', _, hh', hc', _, hf', hs'⟩ := row_at h.row (j * 3 + 1) (by omega)
  cases ha'
  obtain ⟨gb', cs'', u'', ha', _, hh'', hc'', _, hf'', hs''⟩ := row_at h.row (j * 3 + 2) (by omega)
  cases ha'
  have hne : gb ≠ g := by
    rintro rfl
    rw [h.hd] at hh
    injection hh with hh
    injection hh with _ h2 _
    exact absurd h2 (by decide)
  have e1 := h.row.cellAt (j * 3) (by omega)
  have e2 := h.row.cellAt (j * 3 + 1) (by omega)
  have e3 := h.row.cellAt (j * 3 + 2) (by omega)
  rw [show (pv l)[j * 3]? = _ from pv_get hj 0 (by decide)] at e1
  rw [pv_get hj 1 (by decide)] at e2
  rw [pv_get hj 2 (by decide)] at e3
  refine ⟨gb, rfl, hB, (Array.getElem?_eq_some_iff.1 hh).1, hne, e1, e2, e3, fun o => h.row.frozenAt o, fun x => ?_, fun x => ?_, fun x => ?_⟩
  · refine ⟨by rw [set_heap_other _ (Ne.symm hne), List.length_set]; exact h.hd, ?_⟩
    have := hs (.int .i32 x)
    rw [(pv_set l j p _ hj).1 x rfl] at this
    rwa [List.length_set]
  · refine ⟨by rw [set_heap_other _ (Ne.symm hne), List.length_set]; exact h.hd, ?_⟩
    have := hs' (.int .i32 x)
    rw [(pv_set l j p _ hj).2.1 x rfl] at this
    rwa [List.length_set]
  · refine ⟨by rw [set_heap_other _ (Ne.symm hne), List.length_set]; exact h.hd, ?_⟩
    have := hs'' (.int .i32 x)
    rw [(pv_set l j p _ hj).2.2 x rfl] at this
    rwa [List.length_set]
theorem pstep_set {B g gb o : Nat} {a : Option Addr} {w : World} (v : Value) (ha : a = some ⟨gb, 0, none⟩) (hB : B ≤ gb) : GStep B g a a w (w.setCell ⟨gb, o, none⟩ v) :=
  ⟨(Below.refl _ _).setCell (p := ⟨gb, o, none⟩) hB v, fun k _ _ hk => Below.heap_setCell _ _ _ _ (by rintro rfl; exact hk (by rw [ha]; rfl)), fun _ h => .inl h⟩
theorem pstep_refl (B g : Nat) (a : Option Addr) (w : World) : GStep B g a a w w := ⟨Below.refl _ _, fun _ _ _ _ => rfl, fun _ h => .inl h⟩

def partP (ids : List Int) (k : Nat) : List Pl := (newP ids).take k ++ List.replicate (ids.length - k) (0, 0, 0)
theorem partP_zero (ids : List Int) : partP ids 0 = List.replicate ids.length (0, 0, 0) := by simp [partP]
theorem partP_all (ids : List Int) : partP ids ids.length = newP ids := by simp [partP, List.take_of_length_le (Nat.le_of_eq (newP_length ids))]
theorem partP_get (ids : List Int) (k : Nat) (h : k < ids.length) : (partP ids k)[k]? = some (0, 0, 0) := by
  rw [partP, List.getElem?_append_right (by rw [List.length_take, newP_length]; omega), List.length_take, newP_length, Nat.min_eq_left (by omega), Nat.sub_self, List.getElem?_replicate, if_pos (by omega)]
theorem partP_set (ids : List Int) (k : Nat) (z : Int) (h : ids[k]? = some z) : (partP ids k).set k (clampZ z, 0, 0) = partP ids (k + 1) := by
  have hlt := (List.getElem?_eq_some_iff.1 h).1
  have hg : (newP ids)[k]? = some (clampZ z, 0, 0) := by rw [newP, List.getElem?_map, h]; rfl
  rw [partP, partP, List.take_add_one, hg, List.set_append, if_neg (by rw [List.length_take, newP_length]; omega)]
  rw [show ids.length - k = ids.length - (k + 1) + 1 by omega, List.replicate_succ]
  rw [List.length_take, newP_length, Nat.min_eq_left (by omega), Nat.sub_self, List.set_cons_zero]
  simp
set_option maxHeartbeats 1600000 in
theorem pnew_any (z : Int) (a : Option Addr) (n c : Nat) (ids : List Int) (w : World) (h : Has w a (iv ids)) (hl : ids.length = n) (hn : n ≤ 1000000) :
    Calls Try.prog 31 #[.int .i64 z, .slice a n c] w fun e w' => ∃ g a' c', e = .returned (.pointer (some ⟨g, 0, none⟩)) ∧ PlIs w.heap.size g (decide (z = 2)) a' c' (newP ids) w' ∧ w.heap.size ≤ g ∧ Below w.heap.size w w' := by
  have HH := Lib.hid h
  have HL := Lib.hid hl
  have HC := Lib.hid (fun z W => clamp_any z W)
  clear h hl
  go_enter Try.func31, Try.ntmps31
  go_wp2_with (refine wpMake w rfl _ _ 81 rfl w.heap.size 84 (.agg #[.int .i32 0, .int .i32 0, .int .i32 0]) 3 12 Try.underlying81 info_place n rfl rfl (by omega) (by unfold maxLen; omega) (Nat.le_refl _) ?_; intro w1 hown hb1; rw [made_place] at hown; have HO := Lib.hid hown; clear hown)
  have hz1 := hb1.size
  have HB1 := Lib.hid hb1
  clear hb1
  go_loopw [13] (fun i wr => ∃ j : Nat, j ≤ n ∧ i = .int .i64 (j : Nat) ∧ wr.ownsRow w.heap.size 84 3 (.slice (some ⟨w.heap.size, 0, none⟩) n n) n (pv (partP ids j)) ∧ Below w.heap.size w wr) (fun i _ => n - (Go.RowKit.intOf i).toNat)
  case atStart => exact ⟨0, Nat.zero_le _, rfl, by rw [partP_zero, HL.out]; exact HO.out, HB1.out⟩
  case round =>
    obtain ⟨j, hj, rfl, hx, hb⟩ := hrel
    have HX := Lib.hid hx
    have HB := Lib.hid hb
    clear hx hb
    by_cases hlt : j < n
    · obtain ⟨gi, oi, z, rfl, hgi, hz, hci⟩ := iv_at (HH.out.below HB.out) (k := j) (by rw [HL.out]; exact hlt)
      obtain ⟨g2, cs2, u2, he, _, hh2, hc2, _, f2, hs2⟩ := row_at HX.out (j * 3) (by omega)
      cases he
      have hs := hs2 (.int .i32 (clampZ z))
      rw [(pv_set _ j (0, 0, 0) _ (partP_get ids j (by rw [HL.out]; exact hlt))).1 (clampZ z) rfl, partP_set ids j z hz] at hs
      have HS := Lib.hid hs
      have HB2 := Lib.hid (HB.out.setCell (p := ⟨w.heap.size, j * 3, none⟩) (Nat.le_refl _) (.int .i32 (clampZ z)))
      clear hs hs2 hh2 hz
      go_wp2_with (go_at_call 79; (with_reducible refine (HC.out _ _).mono ?_); rintro e w_ ⟨rfl, rfl⟩)
      go_roundw
      case rel => exact ⟨j + 1, hlt, by go_num, HS.out, HB2.out⟩
      case measure => simp [Go.RowKit.intOf]; omega
    · obtain rfl : n = j := by omega
      by_cases hd : z = 2
      · have d1 : (z == 2) = true := by simpa using hd
        go_wp2_with fail
        go_ret
        have hzr := HB.out.size
        have ho := HX.out
        have hl := HL.out
        refine ⟨wr.heap.size, _, _, rfl, ⟨by rw [newP_length, hl, decide_eq_true hd]; exact (heap_push _ _ _).trans (if_pos rfl), ?_⟩, by omega, HB.out.alloc HB.out.size _⟩
        rw [newP_length, hl]
        rw [← hl] at ho ⊢
        rw [partP_all] at ho
        exact ho.alloc _
      · have d1 : (z == 2) = false := by simpa using hd
        go_wp2_with fail
        go_ret
        have hzr := HB.out.size
        have ho := HX.out
        have hl := HL.out
        refine ⟨wr.heap.size, _, _, rfl, ⟨by rw [newP_length, hl, decide_eq_false hd]; exact (heap_push _ _ _).trans (if_pos rfl), ?_⟩, by omega, HB.out.alloc HB.out.size _⟩
        rw [newP_length, hl]
        rw [← hl] at ho ⊢
        rw [partP_all] at ho
        exact ho.alloc _
theorem eqp_nil (w : World) (n c : Nat) : (binOp .eql 81 (.slice none n c) (.slice none 0 0)).run Try.prog w = .ok (.bool true) w := by kernel_rfl
theorem eqp_some (w : World) (p : Addr) (n c : Nat) : (binOp .eql 81 (.slice (some p) n c) (.slice none 0 0)).run Try.prog w = .ok (.bool false) w := by kernel_rfl
set_option maxHeartbeats 800000 in
theorem pclone_any (a : Option Addr) (n c : Nat) (l : List Pl) (w : World) (h : Has w a (pv l)) (hl : l.length = n) (hn : n ≤ 1000000) :
    Calls Try.prog 84 #[.slice a n c] w fun e w' => ∃ a' c', e = .returned (.slice a' n c') ∧ w'.ownsRow w.heap.size 84 3 (.slice a' n c') n (pv l) ∧ n ≤ c' ∧ c' ≤ maxLen ∧ (a' = none → c' = 0) ∧ Below w.heap.size w w' := by
  have HH := Lib.hid h
  have HL := Lib.hid hl
  have hE0 := eqp_nil
  have hE1 := eqp_some
  clear h hl
  cases a with
  | none =>
    go_enter Try.func84, Try.ntmps84
    go_wp2
    go_ret
    have h0 : l = [] := by
      rcases l with _ | ⟨b, bs⟩
      · rfl
      · obtain ⟨p, hp, _⟩ := HH.out 0 (.int .i32 b.1) (by simp [pv_cons])
        cases hp
    have hl := HL.out
    subst h0
    obtain rfl : n = 0 := by simpa using hl.symm
    exact ⟨none, 0, rfl, World.ownsRow_nil _ _ _ _, Nat.le_refl _, Nat.zero_le _, fun _ => rfl, brefl _⟩
  | some p =>
    go_enter Try.func84, Try.ntmps84
    go_wp2_with (at_builtin; refine wpApp rfl _ _ 81 rfl w.heap.size 84 (.agg #[.int .i32 0, .int .i32 0, .int .i32 0]) 3 12 Try.underlying81 info_place rfl (by decide) _ 0 [] rfl (World.ownsRow_lit w #[] 0 (Nat.le_refl _) (by decide) rfl) (some p) n c (pv l) rfl (by rw [pv_length, HL.out]) (HH.out.below (balloc (brefl _) _)) (fun h => by cases h) (pv_one l) (by unfold maxLen; omega) (by omega) (by simp) ?_; intro a1 c1 w1 hown k1 k2 k3 hb1 _; have HO := Lib.hid hown; clear hown)
    go_ret
    have e0 : 0 + n = n := Nat.zero_add n
    exact ⟨a1, c1, by rw [← e0]; rfl, by simpa using HO.out, by omega, k2, k3, (balloc (brefl _) _).trans hb1⟩
set_option maxHeartbeats 800000 in
theorem pall_any (B g : Nat) (d : Bool) (a : Option Addr) (c : Nat) (l : List Pl) (w : World) (h : PlIs B g d a c l w) (hn : l.length ≤ 1000000) :
    Calls Try.prog 34 #[.pointer (some ⟨g, 0, none⟩)] w fun e w' => ∃ a' c', e = .returned (.slice a' l.length c') ∧ w'.ownsRow w.heap.size 84 3 (.slice a' l.length c') l.length (pv l) ∧ l.length ≤ c' ∧ c' ≤ maxLen ∧ (a' = none → c' = 0) ∧ Below w.heap.size w w' := by
  have HC := Lib.hid (pclone_any a l.length c l w h.has rfl hn)
  have q0 := cell_of_heap h.hd 1
  simp only [List.getElem?_toArray, List.getElem?_cons_zero, List.getElem?_cons_succ] at q0
  clear h
  generalize l.length = n at *
  go_enter Try.func34, Try.ntmps34
  go_wp2_with (go_at_call 84; refine HC.out.mono ?_; rintro e w1 ⟨a1, c1, rfl, hown, k1, k2, k3, hb1⟩; have HO := Lib.hid hown; clear hown)
  go_ret
  exact ⟨a1, c1, rfl, HO.out, k1, k2, k3, hb1⟩
set_option maxHeartbeats 800000 in
theorem phas_any (B g : Nat) (d : Bool) (a : Option Addr) (c : Nat) (l : List Pl) (w : World) (h : PlIs B g d a c l w) (z : Int) :
    Calls Try.prog 161 #[.pointer (some ⟨g, 0, none⟩), .int .i64 z] w fun e w' => e = .returned (.bool (inPl l z)) ∧ w = w' := by
  have q0 := cell_of_heap h.hd 1
  simp only [List.getElem?_toArray, List.getElem?_cons_zero, List.getElem?_cons_succ] at q0
  unfold inPl
  clear h
  generalize l.length = n at *
  by_cases h0 : 0 ≤ z
  · have d1 : decide (0 ≤ z) = true := by simpa using h0
    go_enter Try.func161, Try.ntmps161
    go_wp2_with fail
    go_ret
    exact ⟨by first | rfl | (rw [d1]; rfl) | simp [d1], rfl⟩
  · have d1 : decide (0 ≤ z) = false := by simpa using h0
    go_enter Try.func161, Try.ntmps161
    go_wp2_with fail
    go_ret
    exact ⟨by first | rfl | (rw [d1]; rfl) | simp [d1], rfl⟩
/-- Where what a place has across the line lies. -/
def acO (d : Bool) : Nat := if d then 1 else 2
set_option maxHeartbeats 800000 in
theorem pacross_any (B g gb : Nat) (d : Bool) (c : Nat) (l : List Pl) (w : World) (h : PlIs B g d (some ⟨gb, 0, none⟩) c l w) (j : Nat) (hj : j < l.length) :
    Calls Try.prog 163 #[.pointer (some ⟨g, 0, none⟩), .int .i64 (j : Nat)] w fun e w' => e = .returned (.pointer (some ⟨gb, j * 3 + acO d, none⟩)) ∧ w = w' := by
  have q0 := cell_of_heap h.hd 0
  have q1 := cell_of_heap h.hd 1
  simp only [List.getElem?_toArray, List.getElem?_cons_zero, List.getElem?_cons_succ] at q0 q1
  clear h
  generalize l.length = n at *
  cases d with
  | true =>
    go_enter Try.func163, Try.ntmps163
    go_wp2_with fail
    go_ret
    exact ⟨by simp [acO], rfl⟩
  | false =>
    go_enter Try.func163, Try.ntmps163
    go_wp2_with fail
    go_ret
    exact ⟨by simp [acO], rfl⟩
set_option maxHeartbeats 1600000 in
theorem palong_any (B g : Nat) (d : Bool) (a : Option Addr) (c : Nat) (l : List Pl) (z n : Int) (w : World) (h : PlIs B g d a c l w) (hi : In32 l) :
    Calls Try.prog 149 #[.pointer (some ⟨g, 0, none⟩), .int .i64 z, .int .i64 n] w fun e w' => e = .returned (.tuple #[]) ∧ PlIs B g d a c (moreP l z n 0 0) w' ∧ GStep B g a a w w' := by
  have HHAS := Lib.hid (phas_any B g d a c l w h z)
  have q1 := cell_of_heap h.hd 1
  simp only [List.getElem?_toArray, List.getElem?_cons_zero, List.getElem?_cons_succ] at q1
  cases hin : inPl l z with
  | false =>
    rw [hin] at HHAS
    rw [moreP_no hin]
    have HH := Lib.hid h
    clear h hi hin
    go_enter Try.func149, Try.ntmps149
    go_wp2_with (go_at_call 161; (with_reducible refine HHAS.out.mono ?_); rintro e w_ ⟨rfl, rfl⟩)
    go_end0
    exact ⟨rfl, HH.out, pstep_refl _ _ _ _⟩
  | true =>
    rw [hin] at HHAS
    obtain ⟨j, p, rfl, hj⟩ := inPl_yes hin
    obtain ⟨gb, rfl, hB, hgb, hne, c1, c2, c3, hf, s1, s2, s3⟩ := h.set hj
    obtain ⟨i1, i2, i3⟩ := hi.get hj
    have HA := Lib.hid (fun W => add_any p.1 n i1 W)
    have hlt := (List.getElem?_eq_some_iff.1 hj).1
    have lg := (Array.getElem?_eq_some_iff.1 h.hd).1
    have HS := Lib.hid (show PlIs B g d (some ⟨gb, 0, none⟩) c (moreP l (j : Nat) n 0 0) (w.setCell ⟨gb, j * 3, none⟩ (.int .i32 (addZ p.1 n))) from by rw [moreP_of hj, addZ_zero i2, addZ_zero i3]; exact s1 _)
    clear h hi hin s1 s2 s3
    generalize l.length = m at *
    go_enter Try.func149, Try.ntmps149
    go_wp2_with (go_at_call 161; (with_reducible refine HHAS.out.mono ?_); rintro e w_ ⟨rfl, rfl⟩)
    refine wp_region_last (.step 0 (.step 1 (.step 2 (.step 3 (.step 4 (.step 5 (.step 6 (.step 7 (.step 8 (.step 9 (.step 10 (.step 11 (.step 12 (.step 13 (.step 14 (.step 15 (.step 16 (.step 17 .nil)))))))))))))))))) 17 (by kernel_rfl) (by kernel_rfl) (by kernel_rfl) (by kernel_rfl) (by kernel_rfl) (by intro _ _ d_ _ _ h_; cases d_ <;> first | exact h_ | (dsimp +zetaDelta only at h_ ⊢; exact h_)) (fun w' => ∃ p : Wld w [], w' = p.val) (wld_start _ _) ?_
    have hG_ := @wldC w
    (refine z_quiet gtA (by rfl) (by rfl) (fun K_ hK_ => ?_); go_big_quiet_op; refine hK_ _ ?_; clear hK_ K_)
    (refine z_quiet gtA (by rfl) (by rfl) (fun K_ hK_ => ?_); go_big_quiet_op; refine hK_ _ ?_; clear hK_ K_)
    (refine z_quiet gtA (by rfl) (by rfl) (fun K_ hK_ => ?_); go_big_quiet_op; refine hK_ _ ?_; clear hK_ K_)
    (refine z_quiet gtA (by rfl) (by rfl) (fun K_ hK_ => ?_); go_big_quiet_op; refine hK_ _ ?_; clear hK_ K_)
    (refine z_quiet gtA (by rfl) (by rfl) (fun K_ hK_ => ?_); go_big_quiet_op; refine hK_ _ ?_; clear hK_ K_)
    (refine z_quiet gtA (by rfl) (by rfl) (fun K_ hK_ => ?_); go_big_quiet_op; refine hK_ _ ?_; clear hK_ K_)
    (refine z_quiet gtA (by rfl) (by rfl) (fun K_ hK_ => ?_); go_big_quiet_op; refine hK_ _ ?_; clear hK_ K_)
    (refine z_quiet gtA (by rfl) (by rfl) (fun K_ hK_ => ?_); go_big_quiet_op; refine hK_ _ ?_; clear hK_ K_)
    (refine z_quiet gtA (by rfl) (by rfl) (fun K_ hK_ => ?_); go_big_quiet_op; refine hK_ _ ?_; clear hK_ K_)
    (refine z_quiet gtA (by rfl) (by rfl) (fun K_ hK_ => ?_); go_big_quiet_op; refine hK_ _ ?_; clear hK_ K_)
    (refine z_quiet gtA (by rfl) (by rfl) (fun K_ hK_ => ?_); go_big_quiet_op; refine hK_ _ ?_; clear hK_ K_)
    (refine z_quiet gtA (by rfl) (by rfl) (fun K_ hK_ => ?_); go_big_quiet_op; refine hK_ _ ?_; clear hK_ K_)
    (refine z_quiet gtA (by rfl) (by rfl) (fun K_ hK_ => ?_); go_big_quiet_op; refine hK_ _ ?_; clear hK_ K_)
    (refine z_quiet gtA (by rfl) (by rfl) (fun K_ hK_ => ?_); go_big_quiet_op; refine hK_ _ ?_; clear hK_ K_)
    (refine z_run gtA (by rfl) (by rfl) (fun K_ hK_ => ?_); have HK_ := Lib.hid hK_; clear hK_; go_wp2_with ((go_at_call 162; (with_reducible refine (HA.out _).mono ?_); rintro e w_ ⟨rfl, rfl⟩)); refine HK_.out _ _ (wld_ofA) ?_; clear HK_)
    (refine z_quiet gtA (by rfl) (by rfl) (fun K_ hK_ => ?_); go_big_quiet_op; refine hK_ _ ?_; clear hK_ K_)
    (refine z_quiet gtA (by rfl) (by rfl) (fun K_ hK_ => ?_); go_big_quiet_op; refine hK_ _ ?_; clear hK_ K_)
    (refine z_last gtA (by rfl) (by rfl) (by rfl) (fun K_ hK_ => ?_); have HK_ := Lib.hid hK_; clear hK_; go_wp2_with ((go_at_call 162; (with_reducible refine (HA.out _).mono ?_); rintro e w_ ⟨rfl, rfl⟩)); refine HK_.out _ _ ?_; clear HK_)
    refine z_nil ?_
    clear hG_
    go_end0
    exact ⟨rfl, HS.out.below (bdrew1 (brefl _)), (pstep_set _ rfl hB).trans (GStep.of_below (bdrew1 (brefl _)) (by simp; omega))⟩
set_option maxHeartbeats 1600000 in
theorem pcross_any (B g : Nat) (d : Bool) (a : Option Addr) (c : Nat) (l : List Pl) (z n : Int) (w : World) (h : PlIs B g d a c l w) (hi : In32 l) :
    Calls Try.prog 151 #[.pointer (some ⟨g, 0, none⟩), .int .i64 z, .int .i64 n] w fun e w' => e = .returned (.tuple #[]) ∧ PlIs B g d a c (acrossP d l z n) w' ∧ GStep B g a a w w' := by
  have HHAS := Lib.hid (phas_any B g d a c l w h z)
  cases hin : inPl l z with
  | false =>
    rw [hin] at HHAS
    have e : acrossP d l z n = l := by cases d <;> exact moreP_no hin _ _ _
    rw [e]
    have HH := Lib.hid h
    clear h hi hin e
    go_enter Try.func151, Try.ntmps151
    go_wp2_with (go_at_call 161; (with_reducible refine HHAS.out.mono ?_); rintro e w_ ⟨rfl, rfl⟩)
    go_end0
    exact ⟨rfl, HH.out, pstep_refl _ _ _ _⟩
  | true =>
    rw [hin] at HHAS
    obtain ⟨j, p, rfl, hj⟩ := inPl_yes hin
    obtain ⟨gb, rfl, hB, hgb, hne, c1, c2, c3, hf, s1, s2, s3⟩ := h.set hj
    obtain ⟨i1, i2, i3⟩ := hi.get hj
    have hlt := (List.getElem?_eq_some_iff.1 hj).1
    have HAC := Lib.hid (pacross_any B g gb d c l w h j hlt)
    cases d with
    | true =>
      have HA := Lib.hid (fun W => add_any p.2.1 n i2 W)
      have HS := Lib.hid (show PlIs B g true (some ⟨gb, 0, none⟩) c (acrossP true l (j : Nat) n) (w.setCell ⟨gb, j * 3 + 1, none⟩ (.int .i32 (addZ p.2.1 n))) from by rw [acrossP, if_pos rfl, moreP_of hj, addZ_zero i1, addZ_zero i3]; exact s2 _)
      clear h hi hin s1 s2 s3
      rw [show acO true = 1 from rfl] at HAC
      go_enter Try.func151, Try.ntmps151
      go_wp2_with (first | (go_at_call 161; (with_reducible refine HHAS.out.mono ?_); rintro e w_ ⟨rfl, rfl⟩) | (go_at_call 163; (with_reducible refine HAC.out.mono ?_); rintro e w_ ⟨rfl, rfl⟩) | (go_at_call 162; (with_reducible refine (HA.out _).mono ?_); rintro e w_ ⟨rfl, rfl⟩))
      go_end0
      exact ⟨rfl, HS.out, pstep_set _ rfl hB⟩
    | false =>
      have HA := Lib.hid (fun W => add_any p.2.2 n i3 W)
      have HS := Lib.hid (show PlIs B g false (some ⟨gb, 0, none⟩) c (acrossP false l (j : Nat) n) (w.setCell ⟨gb, j * 3 + 2, none⟩ (.int .i32 (addZ p.2.2 n))) from by rw [acrossP, if_neg (by decide), moreP_of hj, addZ_zero i1, addZ_zero i2]; exact s3 _)
      clear h hi hin s1 s2 s3
      rw [show acO false = 2 from rfl] at HAC
      go_enter Try.func151, Try.ntmps151
      go_wp2_with (first | (go_at_call 161; (with_reducible refine HHAS.out.mono ?_); rintro e w_ ⟨rfl, rfl⟩) | (go_at_call 163; (with_reducible refine HAC.out.mono ?_); rintro e w_ ⟨rfl, rfl⟩) | (go_at_call 162; (with_reducible refine (HA.out _).mono ?_); rintro e w_ ⟨rfl, rfl⟩))
      go_end0
      exact ⟨rfl, HS.out, pstep_set _ rfl hB⟩
set_option maxHeartbeats 1600000 in
theorem plevel_any (B g : Nat) (d : Bool) (a : Option Addr) (c : Nat) (l : List Pl) (z : Int) (w : World) (h : PlIs B g d a c l w) :
    Calls Try.prog 150 #[.pointer (some ⟨g, 0, none⟩), .int .i64 z] w fun e w' => e = .returned (.tuple #[]) ∧ PlIs B g d a c (levelP d l z) w' ∧ GStep B g a a w w' := by
  have HHAS := Lib.hid (phas_any B g d a c l w h z)
  cases hin : inPl l z with
  | false =>
    rw [hin] at HHAS
    rw [levelP_no hin]
    have HH := Lib.hid h
    clear h hin
    go_enter Try.func150, Try.ntmps150
    go_wp2_with (go_at_call 161; (with_reducible refine HHAS.out.mono ?_); rintro e w_ ⟨rfl, rfl⟩)
    go_end0
    exact ⟨rfl, HH.out, pstep_refl _ _ _ _⟩
  | true =>
    rw [hin] at HHAS
    obtain ⟨j, p, rfl, hj⟩ := inPl_yes hin
    obtain ⟨gb, rfl, hB, hgb, hne, c1, c2, c3, hf, s1, s2, s3⟩ := h.set hj
    have hlt := (List.getElem?_eq_some_iff.1 hj).1
    have HAC := Lib.hid (pacross_any B g gb d c l w h j hlt)
    rw [levelP_of hj]
    cases d with
    | true =>
      have HS := Lib.hid (s2 0)
      clear h hin s1 s2 s3
      rw [show acO true = 1 from rfl] at HAC
      go_enter Try.func150, Try.ntmps150
      go_wp2_with (first | (go_at_call 161; (with_reducible refine HHAS.out.mono ?_); rintro e w_ ⟨rfl, rfl⟩) | (go_at_call 163; (with_reducible refine HAC.out.mono ?_); rintro e w_ ⟨rfl, rfl⟩))
      go_end0
      exact ⟨rfl, HS.out, pstep_set _ rfl hB⟩
    | false =>
      have HS := Lib.hid (s3 0)
      clear h hin s1 s2 s3
      rw [show acO false = 2 from rfl] at HAC
      go_enter Try.func150, Try.ntmps150
      go_wp2_with (first | (go_at_call 161; (with_reducible refine HHAS.out.mono ?_); rintro e w_ ⟨rfl, rfl⟩) | (go_at_call 163; (with_reducible refine HAC.out.mono ?_); rintro e w_ ⟨rfl, rfl⟩))
      go_end0
      exact ⟨rfl, HS.out, pstep_set _ rfl hB⟩
end Go.Proofs.Ytaladlaffglkeaa
end
section

/- The document's places: New, More, Across, Level, Turn, Same. Conditions: as many cells as the slices say; sizes. -/
namespace Go.Proofs.Ytaladlaffglkeaa
open Go.RowKit Go.Lib

set_option maxHeartbeats 1600000 in
theorem refSameP_any (a b : Option Addr) (n c m d : Nat) (l k : List Pl) (w : World) (h : Has w a (pv l)) (hl : l.length = n) (h2 : Has w b (pv k)) (hk : k.length = m) (hn : n ≤ 1000000) (hm : m ≤ 1000000) :
    Calls Try.prog 40 #[.slice a n c, .slice b m d] w fun e w' => e = .returned (.bool (decide (l = k))) ∧ Below w.heap.size w w' := by
  have HH := Lib.hid h
  have HK := Lib.hid h2
  have HL := Lib.hid hl
  have HKL := Lib.hid hk
  clear h h2 hl hk
  by_cases hnm : n = m
  case neg =>
    have he : decide (l = k) = false := by
      simp only [decide_eq_false_iff_not]
      rintro rfl
      exact hnm (HL.out.symm.trans HKL.out)
    rw [he]
    have hne : ¬ (n : Int) = (m : Int) := by omega
    clear hnm he
    go_enter Try.func40, Try.ntmps40
    go_wp2_with fail
    go_ret
    exact ⟨rfl, blw⟩
  subst hnm
  go_enter Try.func40, Try.ntmps40
  go_wp2_with fail
  go_loopw [5] (fun i wr => ∃ j : Nat, j ≤ n ∧ i = .int .i64 (j : Nat) ∧ l.take j = k.take j ∧ Below w.heap.size w wr) (fun i _ => n - (Go.RowKit.intOf i).toNat)
  case atStart => exact ⟨0, Nat.zero_le _, rfl, by simp, blw⟩
  case round =>
    obtain ⟨j, hj, rfl, hx, hb⟩ := hrel
    have HX := Lib.hid hx
    have HB := Lib.hid hb
    have hzr := hb.size
    clear hx hb
    by_cases hlt : j < n
    · obtain ⟨gi, oi, p, rfl, hgi, hp, hc1, hc2, hc3⟩ := pv_at (HH.out.below HB.out) (k := j) (by rw [HL.out]; omega)
      obtain ⟨gk, ok, q, rfl, hgk, hq, hd1, hd2, hd3⟩ := pv_at (HK.out.below HB.out) (k := j) (by rw [HKL.out]; omega)
      have HP := Lib.hid hp
      have HQ := Lib.hid hq
      clear hp hq
      obtain ⟨p1, p2, p3⟩ := p
      obtain ⟨q1, q2, q3⟩ := q
      simp only at hc1 hc2 hc3 hd1 hd2 hd3
      by_cases h6 : (p1 = q1 ∧ p2 = q2) ∧ p3 = q3
      · obtain ⟨⟨rfl, rfl⟩, rfl⟩ := h6
        go_wp2_with fail
        refine wp_region_tree (.step 0 (.step 1 (.step 2 (.step 3 (.step 4 (.step 5 (.step 6 (.step 7 (.step 8 .nil))))))))) (by kernel_rfl) (by kernel_rfl) (by kernel_rfl) (by kernel_rfl) (by intro _ _ d_ _ _ h_; cases d_ <;> first | exact h_ | (dsimp +zetaDelta only at h_ ⊢; exact h_)) (fun w' => ∃ p : Wld wr [], w' = p.val) (wld_start _ _) ?_
        have hG_ := @wldC wr
        (refine tree_quiet gtA (by rfl) (by rfl) (fun K_ hK_ => ?_); go_big_quiet_op; refine hK_ _ ?_; clear hK_ K_)
        (refine tree_quiet gtA (by rfl) (by rfl) (fun K_ hK_ => ?_); go_big_quiet_op; refine hK_ _ ?_; clear hK_ K_)
        (refine tree_quiet gtA (by rfl) (by rfl) (fun K_ hK_ => ?_); go_big_quiet_op; refine hK_ _ ?_; clear hK_ K_)
        (refine tree_quiet gtA (by rfl) (by rfl) (fun K_ hK_ => ?_); go_big_quiet_op; refine hK_ _ ?_; clear hK_ K_)
        (refine tree_quiet gtA (by rfl) (by rfl) (fun K_ hK_ => ?_); go_big_quiet_op; refine hK_ _ ?_; clear hK_ K_)
        (refine tree_quiet gtA (by rfl) (by rfl) (fun K_ hK_ => ?_); go_big_quiet_op; refine hK_ _ ?_; clear hK_ K_)
        (refine tree_quiet gtA (by rfl) (by rfl) (fun K_ hK_ => ?_); go_big_quiet_op; refine hK_ _ ?_; clear hK_ K_)
        (refine tree_quiet gtA (by rfl) (by rfl) (fun K_ hK_ => ?_); go_big_quiet_op; refine hK_ _ ?_; clear hK_ K_)
        (refine tree_quiet gtA (by rfl) (by rfl) (fun K_ hK_ => ?_); go_big_quiet_op; refine hK_ _ ?_; clear hK_ K_)
        refine tree_nil ?_
        clear hG_
        go_wp2_with fail
        go_roundw
        case rel => exact ⟨j + 1, hlt, by go_num, by rw [List.take_add_one, List.take_add_one, HX.out, HP.out, HQ.out], HB.out.drew⟩
        case measure => simp [Go.RowKit.intOf]; omega
      · have he : decide (l = k) = false := by
          simp only [decide_eq_false_iff_not]
          intro e
          have h1 := HP.out
          rw [e, HQ.out] at h1
          simp only [Option.some.injEq, Prod.mk.injEq] at h1
          exact h6 ⟨⟨h1.1.symm, h1.2.1.symm⟩, h1.2.2.symm⟩
        have HE := Lib.hid he
        clear he
        by_cases h7 : p1 = q1
        · subst h7
          by_cases h8 : p2 = q2
          · subst h8
            have h9 : ¬ p3 = q3 := fun e => h6 ⟨⟨rfl, rfl⟩, e⟩
            clear h6
            go_wp2_with fail
            refine wp_region_tree (.step 0 (.step 1 (.step 2 (.step 3 (.step 4 (.step 5 (.step 6 (.step 7 (.step 8 .nil))))))))) (by kernel_rfl) (by kernel_rfl) (by kernel_rfl) (by kernel_rfl) (by intro _ _ d_ _ _ h_; cases d_ <;> first | exact h_ | (dsimp +zetaDelta only at h_ ⊢; exact h_)) (fun w' => ∃ p : Wld wr [], w' = p.val) (wld_start _ _) ?_
            have hG_ := @wldC wr
            (refine tree_quiet gtA (by rfl) (by rfl) (fun K_ hK_ => ?_); go_big_quiet_op; refine hK_ _ ?_; clear hK_ K_)
            (refine tree_quiet gtA (by rfl) (by rfl) (fun K_ hK_ => ?_); go_big_quiet_op; refine hK_ _ ?_; clear hK_ K_)
            (refine tree_quiet gtA (by rfl) (by rfl) (fun K_ hK_ => ?_); go_big_quiet_op; refine hK_ _ ?_; clear hK_ K_)
            (refine tree_quiet gtA (by rfl) (by rfl) (fun K_ hK_ => ?_); go_big_quiet_op; refine hK_ _ ?_; clear hK_ K_)
            (refine tree_quiet gtA (by rfl) (by rfl) (fun K_ hK_ => ?_); go_big_quiet_op; refine hK_ _ ?_; clear hK_ K_)
            (refine tree_quiet gtA (by rfl) (by rfl) (fun K_ hK_ => ?_); go_big_quiet_op; refine hK_ _ ?_; clear hK_ K_)
            (refine tree_quiet gtA (by rfl) (by rfl) (fun K_ hK_ => ?_); go_big_quiet_op; refine hK_ _ ?_; clear hK_ K_)
            (refine tree_quiet gtA (by rfl) (by rfl) (fun K_ hK_ => ?_); go_big_quiet_op; refine hK_ _ ?_; clear hK_ K_)
            (refine tree_quiet gtA (by rfl) (by rfl) (fun K_ hK_ => ?_); go_big_quiet_op; refine hK_ _ ?_; clear hK_ K_)
            refine tree_nil ?_
            clear hG_
            go_wp2_with fail
            go_ret
            exact ⟨by rw [HE.out]; rfl, HB.out.drew⟩
          · clear h6
            go_wp2_with fail
            refine wp_region_tree (.step 0 (.step 1 (.step 2 (.step 3 (.step 4 (.step 5 (.step 6 (.step 7 (.step 8 .nil))))))))) (by kernel_rfl) (by kernel_rfl) (by kernel_rfl) (by kernel_rfl) (by intro _ _ d_ _ _ h_; cases d_ <;> first | exact h_ | (dsimp +zetaDelta only at h_ ⊢; exact h_)) (fun w' => ∃ p : Wld wr [], w' = p.val) (wld_start _ _) ?_
            have hG_ := @wldC wr
            (refine tree_quiet gtA (by rfl) (by rfl) (fun K_ hK_ => ?_); go_big_quiet_op; refine hK_ _ ?_; clear hK_ K_)
            (refine tree_quiet gtA (by rfl) (by rfl) (fun K_ hK_ => ?_); go_big_quiet_op; refine hK_ _ ?_; clear hK_ K_)
            (refine tree_quiet gtA (by rfl) (by rfl) (fun K_ hK_ => ?_); go_big_quiet_op; refine hK_ _ ?_; clear hK_ K_)
            (refine tree_quiet gtA (by rfl) (by rfl) (fun K_ hK_ => ?_); go_big_quiet_op; refine hK_ _ ?_; clear hK_ K_)
            (refine tree_quiet gtA (by rfl) (by rfl) (fun K_ hK_ => ?_); go_big_quiet_op; refine hK_ _ ?_; clear hK_ K_)
            (refine tree_quiet gtA (by rfl) (by rfl) (fun K_ hK_ => ?_); go_big_quiet_op; refine hK_ _ ?_; clear hK_ K_)
            (refine tree_quiet gtA (by rfl) (by rfl) (fun K_ hK_ => ?_); go_big_quiet_op; refine hK_ _ ?_; clear hK_ K_)
            (refine tree_quiet gtA (by rfl) (by rfl) (fun K_ hK_ => ?_); go_big_quiet_op; refine hK_ _ ?_; clear hK_ K_)
            (refine tree_quiet gtA (by rfl) (by rfl) (fun K_ hK_ => ?_); go_big_quiet_op; refine hK_ _ ?_; clear hK_ K_)
            refine tree_nil ?_
            clear hG_
            go_wp2_with fail
            go_ret
            exact ⟨by rw [HE.out]; rfl, HB.out.drew⟩
        · clear h6
          go_wp2_with fail
          refine wp_region_tree (.step 0 (.step 1 (.step 2 (.step 3 (.step 4 (.step 5 (.step 6 (.step 7 (.step 8 .nil))))))))) (by kernel_rfl) (by kernel_rfl) (by kernel_rfl) (by kernel_rfl) (by intro _ _ d_ _ _ h_; cases d_ <;> first | exact h_ | (dsimp +zetaDelta only at h_ ⊢; exact h_)) (fun w' => ∃ p : Wld wr [], w' = p.val) (wld_start _ _) ?_
          have hG_ := @wldC wr
          (refine tree_quiet gtA (by rfl) (by rfl) (fun K_ hK_ => ?_); go_big_quiet_op; refine hK_ _ ?_; clear hK_ K_)
          (refine tree_quiet gtA (by rfl) (by rfl) (fun K_ hK_ => ?_); go_big_quiet_op; refine hK_ _ ?_; clear hK_ K_)
          (refine tree_quiet gtA (by rfl) (by rfl) (fun K_ hK_ => ?_); go_big_quiet_op; refine hK_ _ ?_; clear hK_ K_)
          (refine tree_quiet gtA (by rfl) (by rfl) (fun K_ hK_ => ?_); go_big_quiet_op; refine hK_ _ ?_; clear hK_ K_)
          (refine tree_quiet gtA (by rfl) (by rfl) (fun K_ hK_ => ?_); go_big_quiet_op; refine hK_ _ ?_; clear hK_ K_)
          (refine tree_quiet gtA (by rfl) (by rfl) (fun K_ hK_ => ?_); go_big_quiet_op; refine hK_ _ ?_; clear hK_ K_)
          (refine tree_quiet gtA (by rfl) (by rfl) (fun K_ hK_ => ?_); go_big_quiet_op; refine hK_ _ ?_; clear hK_ K_)
          (refine tree_quiet gtA (by rfl) (by rfl) (fun K_ hK_ => ?_); go_big_quiet_op; refine hK_ _ ?_; clear hK_ K_)
          (refine tree_quiet gtA (by rfl) (by rfl) (fun K_ hK_ => ?_); go_big_quiet_op; refine hK_ _ ?_; clear hK_ K_)
          refine tree_nil ?_
          clear hG_
          go_wp2_with fail
          go_ret
          exact ⟨by rw [HE.out]; rfl, HB.out.drew⟩
    · obtain rfl : n = j := by omega
      have he : decide (l = k) = true := by
        simp only [decide_eq_true_eq]
        have := HX.out
        rwa [List.take_of_length_le (Nat.le_of_eq HL.out), List.take_of_length_le (Nat.le_of_eq HKL.out)] at this
      have HE := Lib.hid he
      clear he HX
      go_wp2_with fail
      go_ret
      exact ⟨by rw [HE.out]; rfl, HB.out⟩
end Go.Proofs.Ytaladlaffglkeaa
end
section

/- Layer 21's speaks; places in memory beside a list of places that lies apart. No condition. -/
namespace Go.Proofs.Ytaladlaffglkeaa
open Go.RowKit Go.Lib

theorem eqPn (w : World) (p : Addr) : (binOp .eql 77 (.pointer (some p)) (.pointer none)).run Try.prog w = .ok (.bool false) w := by kernel_rfl
end Go.Proofs.Ytaladlaffglkeaa
end
